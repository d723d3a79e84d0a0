import PyProof.Rows.All
import Wide.All
import OpenK.AllK
import Wide.FinOn
import Lean
import PyProof.EqAt
import PyProof.EqKinds
import PyProof.TupleCall
import PySem.Challenge.RW_rankseals_k09_strange_names_and_far_days
set_option Elab.async false
set_option linter.all false
set_option maxRecDepth 100000
set_option maxHeartbeats 4000000
namespace L2
open PySem PySem.Spec PyProof.Rows
noncomputable abbrev Key:=Sum Int Str
noncomputable def xJ:Key→Value→Bool
 | .inl k,v=>Value.isInt k v
 | .inr x,v=>Value.isStrOf x v
noncomputable def Zn (w:World):Key→Int
 | .inl k=>hashInt k
 | .inr x=>hashStr w x
theorem cJ:∀{k:Key} {v:Value},xJ k v=true→(∃i t,k=Sum.inl i∧v=Value.int i t)∨(∃x t,k=Sum.inr x∧v=Value.str x t)
 | .inl i,v,h=>by
  obtain ⟨t,e⟩:=Value.isInt_shape (k:=i) (v:=v) h
  exact .inl ⟨i,t,rfl,e⟩
 | .inr x,v,h=>by
  obtain ⟨t,e⟩:=Value.isStrOf_shape (x:=x) (v:=v) h
  exact .inr ⟨x,t,rfl,e⟩
theorem Ji (i:Int) (t:Tok):xJ (.inl i) (.int i t)=true:=by simp [xJ,Value.isInt]
theorem Jj (x:Str) (t:Tok):xJ (.inr x) (.str x t)=true:=by simp [xJ,Value.isStrOf]
theorem T7 (a b:Int):decide ((Sum.inl a:Key)=Sum.inl b)=(a==b):=by
 by_cases e:a=b
 ·subst e; simp
 ·have h:¬(Sum.inl a:Key)=Sum.inl b:=fun q=>e (Sum.inl.inj q)
  rw [decide_eq_false h]
  exact (beq_eq_false_iff_ne.mpr e).symm
theorem T8 (a b:Str):decide ((Sum.inr a:Key)=Sum.inr b)=decide (a=b):=by
 by_cases e:a=b
 ·subst e; simp
 ·have h:¬(Sum.inr a:Key)=Sum.inr b:=fun q=>e (Sum.inr.inj q)
  rw [decide_eq_false h,decide_eq_false e]
theorem T9 (a:Int) (b:Str):decide ((Sum.inl a:Key)=Sum.inr b)=false:=decide_eq_false (fun q=>nomatch q)
theorem Ua (a:Str) (b:Int):decide ((Sum.inr a:Key)=Sum.inl b)=false:=decide_eq_false (fun q=>nomatch q)
noncomputable def dH (prog:Program) (w:World):PySem.KeyKind prog w Key where
 is:=xJ
 hash:=Zn w
 inj:=fun v a b ha hb=>by
  rcases cJ ha with ⟨i,t,rfl,rfl⟩ | ⟨x,t,rfl,rfl⟩
  ·rcases cJ hb with ⟨j,u,rfl,e⟩ | ⟨y,u,rfl,e⟩
   ·injection e with e1 _; rw [e1]
   ·exact nomatch e
  ·rcases cJ hb with ⟨j,u,rfl,e⟩ | ⟨y,u,rfl,e⟩
   ·exact nomatch e
   ·injection e with e1 _; rw [e1]
 byValue:=fun k v h=>by
  rcases cJ h with ⟨i,t,rfl,rfl⟩ | ⟨x,t,rfl,rfl⟩ <;> rfl
 pyHash:=fun hv h=>by
  rcases cJ hv with ⟨i,t,rfl,rfl⟩ | ⟨x,t,rfl,rfl⟩
  ·exact wpAny_pyHash_int h
  ·exact wpAny_pyHash_str h
 eqBool:=fun hu hv h=>by
  rcases cJ hu with ⟨i,t,rfl,rfl⟩ | ⟨x,t,rfl,rfl⟩
  ·rcases cJ hv with ⟨j,u,rfl,rfl⟩ | ⟨y,u,rfl,rfl⟩
   ·rw [T7] at h; exact wpAny_eqBool_int h
   ·rw [T9] at h; exact SeqAt.EqAt.int_str i t y u _ _ _ _ h
  ·rcases cJ hv with ⟨j,u,rfl,rfl⟩ | ⟨y,u,rfl,rfl⟩
   ·rw [Ua] at h; exact SeqAt.EqAt.str_int x t j u _ _ _ _ h
   ·rw [T8] at h; exact wpAny_eqBool_str h
 «strs»:=fun k x t v h=>by
  rcases cJ h with ⟨i,u,rfl,e⟩ | ⟨y,u,rfl,e⟩
  ·exact nomatch e
  ·injection e with e1 _
   subst e1
   cases v <;> rfl
theorem Am (prog:Program) (w:World) (i:Int) (t:Tok):(dH prog w).is (.inl i) (.int i t)=true:=Ji i t
theorem An (prog:Program) (w:World) (x:Str) (t:Tok):(dH prog w).is (.inr x) (.str x t)=true:=Jj x t
end L2
namespace L2
open PySem PySem.Spec PyProof.Rows
inductive V where
 | non | bl (b:Bool) | int (i:Int) | str (x:Str) | Jk (b:Array UInt8) | flt (b:UInt64) | ref (a:Addr) | ty (n:String)
 deriving DecidableEq
noncomputable def RelV:V→Value→Prop
 | .non,u=>u=Value.none
 | .bl b,u=>u=Value.bool b
 | .int i,u=>∃t,u=Value.int i t
 | .str x,u=>∃t,u=Value.str x t
 | .Jk b,u=>∃t,u=Value.bytes b t
 | .flt b,u=>∃t,u=Value.float b t
 | .ref a,u=>u=Value.ref a
 | .ty n,u=>u=Value.type n
noncomputable abbrev Vals:List V→List Value→Prop:=Paired RelV
theorem Vals.length {xs:List V} {us:List Value} (r:Vals xs us):xs.length=us.length:=Paired.length r
theorem Vals.get:∀{xs:List V} {us:List Value} {i:Nat} {x:V},Vals xs us→xs[i]?=some x→∃u,us[i]?=some u∧RelV x u
 | _,_,_,_,.nil,e=>by simp at e
 | _,_,0,_,.cons r _,e=>by simp at e; subst e; exact ⟨_,rfl,r⟩
 | _,_,i + 1,x,.cons _ t,e=>by
  obtain ⟨u,h1,h2⟩:=Vals.get (i:=i) (x:=x) t (by simpa using e)
  exact ⟨u,by simpa using h1,h2⟩
theorem Vals.set {x:V} {u:Value} (r:RelV x u):∀{xs:List V} {us:List Value} (i:Nat),Vals xs us→Vals (xs.set i x) (us.set i u)
 | _,_,_,.nil=>.nil
 | _,_,0,.cons _ t=>.cons r t
 | _,_,i + 1,.cons q t=>.cons q (Vals.set r i t)
theorem Vals.append:∀{xs ys:List V} {us ws:List Value},Vals xs us→Vals ys ws→Vals (xs++ys) (us++ws)
 | _,_,_,_,.nil,s=>s
 | _,_,_,_,.cons r t,s=>.cons r (Vals.append t s)
theorem Vals.take:∀{xs:List V} {us:List Value} (n:Nat),Vals xs us→Vals (xs.take n) (us.take n)
 | _,_,0,_=>.nil
 | _,_,_ + 1,.nil=>.nil
 | _,_,n + 1,.cons r t=>.cons r (Vals.take n t)
theorem Vals.drop:∀{xs:List V} {us:List Value} (n:Nat),Vals xs us→Vals (xs.drop n) (us.drop n)
 | _,_,0,r=>r
 | _,_,_ + 1,.nil=>.nil
 | _,_,n + 1,.cons _ t=>Vals.drop n t
noncomputable def qR:Option V→Option Value→Prop
 | some v,some u=>RelV v u
 | none,none=>True
 | _,_=>False
noncomputable def KV {κ:Type}:List (κ×V)→List (κ×Value)→Prop:=Paired fun (p:κ×V) (q:κ×Value)=>p.1=q.1∧RelV p.2 q.2
noncomputable def kV:Key→V
 | .inl i=>.int i
 | .inr x=>.str x
inductive HO where
 | lst (xs:List V)
 | tup (xs:List V)
 | dK (kvs:List (Key×V)) | dT (kvs:List (List Key×V))
 | set (S:Int→Bool) (n:Nat)
 | ins (C dx:Addr) (fs:List (Str×V))
 | own (x:Addr)
 | xd (fs:List (Str×V))
 | met (f x:Addr)
 | Zo (lo hi:Int)
 | Al (o:Obj) (u:HO)
 | Ub (ps:Array Value)
 | ext (φ:Heap→Prop)
noncomputable abbrev Hp:=Addr→Option HO
noncomputable def upd (H:Hp) (a:Addr) (o:HO):Hp:=fun b=>if b=a then some o else H b
theorem aH {H:Hp} {a:Addr} {o:HO}:upd H a o a=some o:=by unfold upd; rw [if_pos rfl]
theorem aJ {H:Hp} {a b:Addr} {o:HO} (h:b≠a):upd H a o b=H b:=by unfold upd; rw [if_neg h]
theorem GC {H:Hp} {a:Addr} {o u:HO}:upd (upd H a o) a u=upd H a u:=by
 funext b; unfold upd; split <;> rfl
theorem KR {H:Hp} {a b:Addr} {o u:HO} (h:H a=some o) (h':H b=some u) (d:o≠u):a≠b:=by
 intro e; subst e; rw [h] at h'; exact d (Option.some.inj h')
theorem bB {H:Hp} {a b:Addr} {o:HO} (h:H a=some o) (h':H b=none):a≠b:=by
 intro e; subst e; rw [h] at h'; cases h'
section
variable (P:Program) (w:World)
noncomputable def bW (H:Hp) (h:Heap) (a:Addr):HO→Prop
 | .lst xs=>xs.length≤sizeLine∧∃(its:List Value) (n:Nat),Vals xs its∧h.get? a=some { cls:=.type "list",data:=.seq its.toArray n }
 | .tup xs=>xs.length≤sizeLine∧∃its:List Value,Vals xs its∧IsTup h a its.toArray
 | .dK kvs=>kvs.length≤sizeLine∧(a==sysModules)=false∧∃vs,KV kvs vs∧h.DictOf (dH P w) a vs
 | .dT kvs=>kvs.length≤sizeLine∧(a==sysModules)=false∧∃xs:List (List Key×Addr×Value),
   Paired (fun (p:List Key×V) (q:List Key×Addr×Value)=>p.1=q.1∧H q.2.1=some (.tup (p.1.map kV))∧RelV p.2 q.2.2) kvs xs∧
   ∃o es ep,h.get? a=some o∧o.ExactDict∧o.data=.dict es ep∧es.toList=xs.map (entryOfKey (tupleKind (dH P w)))∧(xs.map (·.1)).Nodup
 | .set S n=>h.SetOf (intKind P w) a S n
 | .ins C dx fs=>H dx=some (.own a)∧fs.length≤1000∧dx≠a∧h.get? a=some (PySem.W.instObj C dx)∧
   ∃mA,h.Ns1 dx mA∧(∀f,qR (fs.lookup f) (mA f))∧PySem.Within mA (fs.map (·.1))
 | .own _=>∃o,h.get? a=some o
 | .xd fs=>∃mA,h.Ns1 a mA∧∀f,qR (fs.lookup f) (mA f)
 | .Zo lo hi=>∃t u v,h.get? a=some { cls:=.type "range",data:=.fields #[.int lo t,.int hi u,.int 1 v] }
 | .Al o u=>h.get? a=some o∧bW H h a u
 | .Ub ps=>h.get? a=some { cls:=.none,data:=.fields ps }
 | .met f x=>h.get? a=some (PySem.W.methodObj (.ref f) (.ref x))
 | .ext φ=>φ h∧(∃o,h.get? a=some o)∧∀h1 h2:Heap,φ h1→(∀o,h1.get? a=some o→h2.get? a=some o)→φ h2
noncomputable def pM (H:Hp) (h:Heap):Prop:=∀a o,H a=some o→bW P w H h a o
end
section
variable {P:Program} {w:World} {H H':Hp} {h h':Heap} {a:Addr} {o:HO}
theorem bW.lt (x:bW P w H h a o):a < h.objs.size:=by
 cases o with
 | lst xs=>obtain ⟨_,_,_,_,e⟩:=x; exact Heap.lt_size e
 | tup xs=>obtain ⟨_,_,_,p⟩:=x; exact p.lt
 | dK kvs=>obtain ⟨_,_,_,_,o,_,_,e,_⟩:=x; exact Heap.lt_size e
 | dT kvs=>obtain ⟨_,_,_,_,o,_,_,e,_⟩:=x; exact Heap.lt_size e
 | set S n=>obtain ⟨o,_,_,_,e,_⟩:=x; exact Heap.lt_size e
 | ins C dx fs=>obtain ⟨_,_,_,e,_⟩:=x; exact Heap.lt_size e
 | own y=>obtain ⟨_,e⟩:=x; exact Heap.lt_size e
 | xd fs=>obtain ⟨_,⟨_,_,_,e,_⟩,_⟩:=x; exact Heap.lt_size e
 | Zo lo hi=>obtain ⟨_,_,_,e⟩:=x; exact Heap.lt_size e
 | Al ob u=>obtain ⟨e,_⟩:=x; exact Heap.lt_size e
 | Ub ps=>exact Heap.lt_size (show h.get? a=some _ from x)
 | met f y=>exact Heap.lt_size (show h.get? a=some _ from x)
 | ext φ=>obtain ⟨_,⟨_,e⟩,_⟩:=x; exact Heap.lt_size e
theorem Paired.Uc {α β:Type} {F G:α→β→Prop}:∀{l₁:List α} {l₂:List β},Paired F l₁ l₂→(∀a b,F a b→G a b)→Paired G l₁ l₂
 | _,_,.nil,_=>.nil
 | _,_,.cons r t,f=>.cons (f _ _ r) (Paired.Uc t f)
theorem bW.stay (x:bW P w H h a o) (k:∀b u,(b=a∨H b=some (.own a))→h.get? b=some u→h'.get? b=some u)
  (ho:∀b,H b=some (.own a)→H' b=some (.own a)) (ht:∀b xs,H b=some (.tup xs)→H' b=some (.tup xs)):bW P w H' h' a o:=by
 induction o with
 | lst xs=>obtain ⟨z,its,n,r,e⟩:=x; exact ⟨z,its,n,r,k _ _ (.inl rfl) e⟩
 | tup xs=>obtain ⟨z,its,r,ob,e,c⟩:=x; exact ⟨z,its,r,ob,k _ _ (.inl rfl) e,c⟩
 | dK kvs=>obtain ⟨z,y,vs,r,ob,es,ep,e,c⟩:=x; exact ⟨z,y,vs,r,ob,es,ep,k _ _ (.inl rfl) e,c⟩
 | dT kvs=>
  obtain ⟨z,y,xs,r,ob,es,ep,e,c⟩:=x
  exact ⟨z,y,xs,Paired.Uc r fun p q z=>⟨z.1,ht _ _ z.2.1,z.2.2⟩,ob,es,ep,k _ _ (.inl rfl) e,c⟩
 | set S n=>obtain ⟨ob,es,ep,t,e,c⟩:=x; exact ⟨ob,es,ep,t,k _ _ (.inl rfl) e,c⟩
 | ins C dx fs=>
  obtain ⟨d,z,ne,e,mA,⟨od,es,ep,e2,c⟩,r⟩:=x
  exact ⟨ho _ d,z,ne,k _ _ (.inl rfl) e,mA,⟨od,es,ep,k _ _ (.inr d) e2,c⟩,r⟩
 | own y=>obtain ⟨ob,e⟩:=x; exact ⟨ob,k _ _ (.inl rfl) e⟩
 | xd fs=>obtain ⟨mA,⟨od,es,ep,e,c⟩,r⟩:=x; exact ⟨mA,⟨od,es,ep,k _ _ (.inl rfl) e,c⟩,r⟩
 | Zo lo hi=>obtain ⟨t,u,v,e⟩:=x; exact ⟨t,u,v,k _ _ (.inl rfl) e⟩
 | Al ob u ih=>obtain ⟨e,q⟩:=x; exact ⟨k _ _ (.inl rfl) e,ih q⟩
 | Ub ps=>
  have e:h.get? a=some { cls:=.none,data:=.fields ps }:=x
  show h'.get? a=some { cls:=.none,data:=.fields ps }
  exact k a _ (.inl rfl) e
 | met f y=>
  have e:h.get? a=some (PySem.W.methodObj (.ref f) (.ref y)):=x
  show h'.get? a=some (PySem.W.methodObj (.ref f) (.ref y))
  exact k a _ (.inl rfl) e
 | ext φ=>obtain ⟨p,⟨o,e⟩,st⟩:=x; exact ⟨st _ _ p fun o q=>k _ _ (.inl rfl) q,⟨o,k _ _ (.inl rfl) e⟩,st⟩
theorem pM.lt (x:pM P w H h) (e:H a=some o):a < h.objs.size:=(x a o e).lt
theorem pM.fresh (x:pM P w H h) (e:h.objs.size≤a):H a=none:=by
 cases q:H a with
 | none=>rfl
 | some u=>exact absurd (Nat.lt_of_lt_of_le (x.lt q) e) (Nat.lt_irrefl _)
theorem pM.kept (x:pM P w H h) (k:∀b u,h.get? b=some u→h'.get? b=some u):pM P w H h':=fun a o e=>
 (x a o e).stay (fun b u _ q=>k b u q) (fun _ q=>q) fun _ _ q=>q
theorem pM.laid (x:pM P w H h) (k:∀b u,h.get? b=some u→h'.get? b=some u) (hp:h.objs.size≤a) (new:bW P w (upd H a o) h' a o):pM P w (upd H a o) h':=fun b u e=>by
 have hn:=x.fresh hp
 by_cases hb:b=a
 ·subst hb; rw [aH] at e; cases e; exact new
 ·rw [aJ hb] at e
  exact (x b u e).stay (fun c v _ q=>k c v q) (fun c q=>by rw [aJ (bB q hn)]; exact q) fun c xs q=>by rw [aJ (bB q hn)]; exact q
end
noncomputable def Rd (H:Hp) (a:Addr) (u:HO):Prop:=H a=some u∨∃o,H a=some (.Al o u)
theorem Rd.of {H:Hp} {a:Addr} {u:HO} (h:H a=some u):Rd H a u:=.inl h
theorem Rd.ok {P:Program} {w:World} {H:Hp} {h:Heap} {a:Addr} {u:HO} (r:Rd H a u) (x:pM P w H h):bW P w H h a u:=by
 rcases r with r | ⟨o,r⟩
 ·exact x a u r
 ·obtain ⟨_,q⟩:=x a _ r
  exact q
noncomputable def Wy:Option HO→Prop
 | some (.lst _)=>True
 | some (.dK _)=>True
 | some (.dT _)=>True
 | some (.set _ _)=>True
 | some (.ins _ _ _)=>True
 | some (.ext _)=>True
 | _=>False
section
variable {P:Program} {w:World} {H:Hp} {h h':Heap} {x e:Addr} {o':HO}
theorem pM.write (ok:pM P w H h) (mu:Wy (H x)) (he:e=x∨H e=some (.own x)) (k:∀b u,b≠e→h.get? b=some u→h'.get? b=some u) (heo:∃u,h'.get? e=some u)
  (new:bW P w (upd H x o') h' x o'):pM P w (upd H x o') h':=fun b u q=>by
 have Wz:∀c y,H c=some (.own y)→c≠x:=fun c y r z=>by subst z; rw [r] at mu; exact mu
 have Zq:∀c xs,H c=some (.tup xs)→c≠x:=fun c xs r z=>by subst z; rw [r] at mu; exact mu
 by_cases hb:b=x
 ·subst hb; rw [aH] at q; cases q; exact new
 ·rw [aJ hb] at q
  by_cases hbe:b=e
  ·have q':H b=some (.own x):=by
    rcases he with z | z
    ·exact absurd (hbe.trans z) hb
    ·rw [hbe]; exact z
   rw [q] at q'; cases q'
   obtain ⟨v,hv⟩:=heo
   exact ⟨v,by rw [hbe]; exact hv⟩
  ·refine (ok b u q).stay (fun c v hc r=>k c v ?_ r) (fun c r=>by rw [aJ (Wz c b r)]; exact r) fun c xs r=>by rw [aJ (Zq c xs r)]; exact r
   rcases hc with rfl | hc
   ·exact hbe
   ·rintro rfl
    rcases he with z | z
    ·exact Wz c b hc z
    ·rw [hc] at z; cases z; exact hb rfl
end
structure Un (fs ex:List Addr) (H H':Hp) (h h':Heap):Prop where
 keep:∀b o,h.get? b=some o→H b=none→b∉fs→b∉ex→h'.get? b=some o
 slot:∀b o,h.get? b=some o→H b=none→b∈fs→b∉ex→∃sl,h'.get? b=some { o with slots:=sl }
 free:∀b o,h.get? b=some o→H b=none→b∉ex→H' b=none
 there:∀b o,h.get? b=some o→b∉ex→∃o',h'.get? b=some o'
 tups:∀b xs,H b=some (.tup xs)→H' b=some (.tup xs)
 qT:∀b o u,H b=some (.Al o u)→H' b=some (.Al o u)
 tV:∀b ps,H b=some (.Ub ps)→∃more,H' b=some (.Ub (ps++more))
section
variable {fs fs' ex ex':List Addr} {H H1 H2:Hp} {h h1 h2 h':Heap} {a x e:Addr} {o:HO}
theorem Un.any (u:Un fs ex H H1 h h1) {b:Addr} {ob:Obj} (q:h.get? b=some ob) (n:H b=none) (hx:b∉ex):∃sl,h1.get? b=some { ob with slots:=sl }:=by
 by_cases hb:b∈fs
 ·exact u.slot b ob q n hb hx
 ·exact ⟨ob.slots,u.keep b ob q n hb hx⟩
theorem Un.trans (a:Un fs ex H H1 h h1) (b:Un fs ex H1 H2 h1 h2):Un fs ex H H2 h h2 where
 keep:=fun c ob q n hc hx=>b.keep c ob (a.keep c ob q n hc hx) (a.free c ob q n hx) hc hx
 slot:=fun c ob q n hc hx=>by
  obtain ⟨sl,e1⟩:=a.slot c ob q n hc hx
  obtain ⟨sl',e2⟩:=b.slot c _ e1 (a.free c ob q n hx) hc hx
  exact ⟨sl',e2⟩
 free:=fun c ob q n hx=>by
  obtain ⟨o',e1⟩:=a.there c ob q hx
  exact b.free c o' e1 (a.free c ob q n hx) hx
 there:=fun c ob q hx=>by
  obtain ⟨o',e1⟩:=a.there c ob q hx
  exact b.there c o' e1 hx
 tups:=fun c xs q=>b.tups c xs (a.tups c xs q)
 qT:=fun c ob xs q=>b.qT c ob xs (a.qT c ob xs q)
 tV:=fun c ps q=>by
  obtain ⟨m1,e1⟩:=a.tV c ps q
  obtain ⟨m2,e2⟩:=b.tV c _ e1
  exact ⟨m1++m2,by rw [e2,Array.append_assoc]⟩
theorem Un.kept (k:∀b u,h.get? b=some u→h'.get? b=some u):Un fs ex H H h h':=
 ⟨fun b ob q _ _ _=>k b ob q,fun b ob q _ _ _=>⟨ob.slots,k b ob q⟩,fun _ _ _ n _=>n,fun b ob q _=>⟨ob,k b ob q⟩,fun _ _ q=>q,fun _ _ _ q=>q,fun _ ps q=>⟨#[],by rw [q]; simp⟩⟩
theorem Un.refl:Un fs ex H H h h:=Un.kept fun _ _ q=>q
theorem Un.laid (k:∀b u,h.get? b=some u→h'.get? b=some u) (hp:h.objs.size≤a) (hn:H a=none):Un fs ex H (upd H a o) h h' where
 keep:=fun b u q _ _ _=>k b u q
 slot:=fun b u q _ _ _=>⟨u.slots,k b u q⟩
 free:=fun b u q n _=>by rw [aJ (Nat.ne_of_lt (Nat.lt_of_lt_of_le (Heap.lt_size q) hp))]; exact n
 there:=fun b u q _=>⟨u,k b u q⟩
 tups:=fun b xs q=>by rw [aJ (bB q hn)]; exact q
 qT:=fun b u xs q=>by rw [aJ (bB q hn)]; exact q
 tV:=fun b ps q=>⟨#[],by rw [aJ (bB q hn),q]; simp⟩
theorem Un.write (mu:Wy (H x)) (he:e=x∨H e=some (.own x)) (k:∀b u,b≠e→h.get? b=some u→h'.get? b=some u) (heo:∃u,h'.get? e=some u):Un fs ex H (upd H x o) h h':=by
 have hx:∀b,H b=none→b≠x:=fun b n z=>by subst z; rw [n] at mu; exact mu
 have hb:∀b,H b=none→b≠e:=fun b n z=>by
  subst z
  rcases he with r | r
  ·exact hx b n r
  ·rw [n] at r; cases r
 have hm:∀b u,H b=some u→¬Wy (some u)→b≠x:=fun b u q nm z=>by subst z; rw [q] at mu; exact nm mu
 refine ⟨fun b u q n _ _=>k b u (hb b n) q,fun b u q n _ _=>⟨u.slots,k b u (hb b n) q⟩,fun b u q n _=>by rw [aJ (hx b n)]; exact n,fun b u q _=>?_,
  fun b xs q=>by rw [aJ (hm b _ q fun z=>z)]; exact q,fun b u xs q=>by rw [aJ (hm b _ q fun z=>z)]; exact q,fun b ps q=>⟨#[],by rw [aJ (hm b _ q fun z=>z),q]; simp⟩⟩
 by_cases hbe:b=e
 ·subst hbe; exact heo
 ·exact ⟨u,k b u hbe q⟩
theorem Un.mono (u:Un fs ex H H1 h h1) (hs:∀b∈fs,b∈fs') (hx:∀b∈ex,b∈ex'):Un fs' ex' H H1 h h1:=
 ⟨fun b ob q n hb he=>u.keep b ob q n (fun z=>hb (hs b z)) fun z=>he (hx b z),fun _ _ q n _ he=>u.any q n fun z=>he (hx _ z),fun b ob q n he=>u.free b ob q n fun z=>he (hx b z),fun b ob q he=>u.there b ob q fun z=>he (hx b z),u.tups,u.qT,u.tV⟩
end
noncomputable def YL (h:Heap) (H:Hp):List Addr:=(List.range h.objs.size).filter fun a=>(H a).isSome
noncomputable def yQ (h:Heap) (H:Hp):Heap:=PySem.W.hideAll h (YL h H)
theorem Jl (h:Heap) (H:Hp):(yQ h H).objs.size=h.objs.size:=PySem.W.hideAll_size _ _
theorem KY {h:Heap} {H:Hp} {b:Addr} {o:Obj} (e:h.get? b=some o) (n:H b=none):(yQ h H).get? b=some o:=
 PySem.W.hideAll_get _ e fun hm=>by
  have q:(H b).isSome=true:=(List.mem_filter.mp hm).2
  rw [n] at q; simp at q
theorem PK {h:Heap} {H:Hp} {b:Addr} {o:Obj} (e:(yQ h H).get? b=some o):h.get? b=some o∧H b=none:=by
 have e':h.get? b=some o:=PySem.W.of_hideAll (YL h H) e
 refine ⟨e',?_⟩
 cases q:H b with
 | none=>rfl
 | some x=>
  have hm:b∈YL h H:=List.mem_filter.mpr ⟨List.mem_range.mpr (Heap.lt_size e'),by simp [q]⟩
  have z:(yQ h H).get? b=none:=PySem.W.hideAll_none (YL h H) hm
  rw [z] at e; cases e
noncomputable def PL (g h:Heap) (L:Addr):List (Addr×Obj):=(List.range h.objs.size).filterMap fun a=>if a=L∨(g.get? a).isSome=true then none else (h.get? a).map fun o=>(a,o)
noncomputable def rest (g h:Heap) (L d:Addr):List (Addr×Obj):=(PL g h L).filter fun p=>decide (p.1≠d)
end L2
namespace L2
open PySem PySem.Spec PyProof.Rows
structure Mod (K:PySem.W.Frag) (mg:Str→Option Value) (base:Heap):Prop where
 Zr:K.In base
 glob:base.Ns mainGlobals mg
 blt:∃mb,base.Ns builtinsNs mb∧∀x:Str,x≠"__name__"→mb x=bootBuiltins x
 nolimit:base.NoLimit
structure Cx where
 prog:Program
 w:World
 K:PySem.W.Frag
 mg:Str→Option Value
 base:Heap
 A:Around
 N:List Str
 s₀:Shared
 H₀:Hp
 env:Env
 outer:List Env
 stack:List Env
 ex:List Addr
 fn:Str→Bool
 calm:Bool
 pn:List (Addr×Obj)
 xe:Value→Shared→Prop
noncomputable def frs (l:List Env):List Addr:=l.filterMap (·.frame)
noncomputable abbrev Cx.fs (X:Cx):List Addr:=frs X.outer
noncomputable def Zt (sc:Scope) (x:Str):Prop:=sc.names.lookup x=some .local∨sc.names.lookup x=some .cell∨sc.names.lookup x=some .free
noncomputable def Loc (sc:Scope) (x:Str):Prop:=sc.names.lookup x=some .local∨sc.names.lookup x=some .cell
noncomputable def Look (env:Env) (h:Heap) (m:Str→Option Value) (x:Str) (u:Value):Prop:=
 (env.kindOf x=some .local∧m x=some u)∨((env.kindOf x=some .cell∨env.kindOf x=some .free)∧∃c,env.cells.lookup x=some c∧h.IsCell c (some u))
structure Cx.Ok (X:Cx):Prop where
 mod:Mod X.K X.mg X.base
 kind:X.env.scope.kind=.function
 glob:X.env.globals=mainGlobals
 blt:X.env.builtins=builtinsNs
 above:X.s₀.heap.objs.size≤X.env.locals
 inj:∀x y c,X.env.cells.lookup x=some c→X.env.cells.lookup y=some c→x=y
 has:∀x,(X.env.kindOf x=some .cell∨X.env.kindOf x=some .free)→∃c,X.env.cells.lookup x=some c
 cab:∀x c,X.fn x=true→X.env.cells.lookup x=some c→X.s₀.heap.objs.size≤c
 hd:X.calm=true→X.A.handled=none
 frames:X.A.frames=some X.stack
 stk:X.stack=X.outer∨(X.stack=X.env::X.outer∧X.env.frame=some X.env.locals)
 exf:∀b∈X.ex,b≠X.env.locals∧∀x c,X.env.cells.lookup x=some c→c≠b
 bs:∀b o,X.base.get? b=some o→X.s₀.heap.get? b=some o∧X.H₀ b=none
 Pq:X.base.objs.size≤X.s₀.heap.objs.size
 KZ:∀b o,X.base.get? b=some o→b∉X.ex
 PN:∀b∈X.ex,b∉X.fs
 tW:X.s₀.heap.FunFrames X.base X.outer
 Ud:∀b∈X.fs,X.H₀ b=none
structure Inv (X:Cx) (pins:List (Addr×Obj)) (σ:List (Option V)) (H:Hp) (s:Shared):Prop where
 ok:X.Ok
 os:s.os=X.s₀.os
 bare:AllBare s.gens
 base:Un X.fs X.ex X.H₀ H X.s₀.heap s.heap
 loc:∃m,s.heap.Ns X.env.locals m∧∀(i:Nat) (x:Str) (v:V),X.N[i]?=some x→σ[i]?=some (some v)→Zt X.env.scope x→∃u,RelV v u∧Look X.env s.heap m x u
 cell:∀x c,X.env.cells.lookup x=some c→∃v,s.heap.IsCell c v
 free:H X.env.locals=none
 lY:∀x c,X.env.cells.lookup x=some c→H c=none
 pin:∀p∈X.pn++pins,s.heap.get? p.1=some p.2∧H p.1=none∧p.1≠X.env.locals∧p.1∉X.fs∧∀v,p.2.data≠.cell v
 hok:pM X.prog X.w H s.heap
 len:σ.length=X.N.length
section
variable {X:Cx} {pins:List (Addr×Obj)} {σ:List (Option V)} {H H':Hp} {s:Shared} {h':Heap}
theorem Cx.Ok.Zu (ok:X.Ok) {b:Addr} {o:Obj} (e:X.base.get? b=some o):b∉X.fs:=fun hb=>by
 have:=(ok.tW.mem hb).1
 rw [e] at this; cases this
theorem Inv.bs (I:Inv X pins σ H s):∀b o,X.base.get? b=some o→s.heap.get? b=some o∧H b=none:=fun b o e=>
 ⟨I.base.keep b o (I.ok.bs b o e).1 (I.ok.bs b o e).2 (I.ok.Zu e) (I.ok.KZ b o e),I.base.free b o (I.ok.bs b o e).1 (I.ok.bs b o e).2 (I.ok.KZ b o e)⟩
theorem Inv.bk (I:Inv X pins σ H s):∀b o,X.base.get? b=some o→s.heap.get? b=some o:=fun b o e=>(I.bs b o e).1
theorem Inv.mod (I:Inv X pins σ H s):Mod X.K X.mg X.base:=I.ok.mod
theorem Inv.pO (I:Inv X pins σ H s):X.K.In s.heap:=I.ok.mod.Zr.keeps I.bk
theorem Inv.nolimit (I:Inv X pins σ H s):s.heap.NoLimit:=I.ok.mod.nolimit.keeps I.bk
theorem Inv.fr (I:Inv X pins σ H s):∃m,Fr X.base X.env.locals s.heap m:=
 let ⟨m,hn,_⟩:=I.loc
 ⟨m,hn,I.bk,Nat.le_trans I.ok.Pq I.ok.above⟩
theorem Inv.lt (I:Inv X pins σ H s):X.env.locals < s.heap.objs.size:=let ⟨_,hn,_⟩:=I.loc; hn.lt
theorem Inv.sz (I:Inv X pins σ H s):X.s₀.heap.objs.size≤s.heap.objs.size:=Nat.le_trans I.ok.above (Nat.le_of_lt I.lt)
theorem Inv.Zv (I:Inv X pins σ H s) {a:Addr} (h:s.heap.objs.size≤a):a∉X.fs:=fun hb=>by
 obtain ⟨_,o,ho,_⟩:=I.ok.tW.mem hb
 exact absurd (Nat.lt_of_lt_of_le (Heap.lt_size ho) (Nat.le_trans I.sz h)) (Nat.lt_irrefl _)
theorem Inv.Ue (I:Inv X pins σ H s):∀x c,X.env.cells.lookup x=some c→c≠X.env.locals:=fun x c e z=>by
 obtain ⟨v,o,ho,hd⟩:=I.cell x c e
 obtain ⟨m,⟨o',es,ep,ho',hd',_⟩,_⟩:=I.loc
 rw [z,ho'] at ho; cases ho; rw [hd'] at hd; cases hd
theorem Inv.tW (I:Inv X pins σ H s):s.heap.FunFrames X.base X.outer:=by
 have all:∀(l:List Env),(∀b∈frs l,b∈X.fs)→X.s₀.heap.FunFrames X.base l→s.heap.FunFrames X.base l:=by
  intro l
  induction l with
  | nil=>intro _ _; trivial
  | cons env r ih=>
   intro hs hl
   obtain ⟨hk,⟨L,o,hf,hn,ho,hd⟩,hr⟩:=hl
   have hL:L∈X.fs:=hs L (by unfold frs; rw [List.filterMap_cons,hf]; exact List.mem_cons_self)
   obtain ⟨sl,e⟩:=I.base.slot L o ho (I.ok.Ud L hL) hL fun z=>I.ok.PN L z hL
   exact ⟨hk,⟨L,_,hf,hn,e,hd⟩,ih (fun b hb=>hs b (by unfold frs; rw [List.filterMap_cons,hf]; exact List.mem_cons_of_mem _ hb)) hr⟩
 exact all X.outer (fun _ hb=>hb) I.ok.tW
theorem Inv.stack (I:Inv X pins σ H s):s.heap.FunFrames X.base X.stack:=by
 rcases I.ok.stk with e | ⟨e,hf⟩
 ·rw [e]; exact I.tW
 ·rw [e]
  obtain ⟨m,hn,_⟩:=I.loc
  refine .cons (by rw [I.ok.kind]; decide) hf hn ?_ I.tW
  exact Heap.get?_none_of_le (Nat.le_trans I.ok.Pq I.ok.above)
theorem Inv.qU (I:Inv X pins σ H s):∀b∈frs X.stack,b∈X.env.locals::X.fs:=fun b hb=>by
 rcases I.ok.stk with e | ⟨e,hf⟩
 ·rw [e] at hb; exact List.mem_cons_of_mem _ hb
 ·rw [e] at hb
  unfold frs at hb
  rw [List.filterMap_cons,hf] at hb
  exact hb
theorem Inv.GD (I:Inv X pins σ H s):∀b∈frs X.stack,H b=none:=fun b hb=>by
 rcases List.mem_cons.mp (I.qU b hb) with e | hb
 ·rw [e]; exact I.free
 ·obtain ⟨_,o,ho,_⟩:=I.ok.tW.mem hb
  exact I.base.free b o ho (I.ok.Ud b hb) fun z=>I.ok.PN b z hb
theorem Inv.step {g':Array GenState} {t':Nat} {d':Drawn} {ch:List Addr} (I:Inv X pins σ H s)
  (hch:∀b∈ch,(b∈X.ex∨X.s₀.heap.objs.size≤b)∧b≠X.env.locals∧(∀x c,X.env.cells.lookup x=some c→c≠b)∧∀p∈X.pn++pins,p.1≠b)
  (keep:∀b o,b≠X.env.locals→b∉X.fs→b∉ch→s.heap.get? b=some o→H b=none→h'.get? b=some o)
  (slot:∀b o,b≠X.env.locals→b∈X.fs→b∉ch→s.heap.get? b=some o→H b=none→∃sl,h'.get? b=some { o with slots:=sl }) (free:∀b o,b∉ch→s.heap.get? b=some o→H b=none→H' b=none)
  (there:∀b o,b∉ch→s.heap.get? b=some o→∃o',h'.get? b=some o')
  (tups:∀b xs,H b=some (.tup xs)→H' b=some (.tup xs)) (qT:∀b o u,H b=some (.Al o u)→H' b=some (.Al o u)) (tV:∀b ps,H b=some (.Ub ps)→∃more,H' b=some (.Ub (ps++more)))
  (ns:∀m,s.heap.Ns X.env.locals m→h'.Ns X.env.locals m) (hok:pM X.prog X.w H' h') (hg:AllBare g'):
  Inv X pins σ H' { s with heap:=h',gens:=g',drawn:=d',toks:=t' }:=by
 have neL:∀b o,X.s₀.heap.get? b=some o→b≠X.env.locals:=fun b o e=>Nat.ne_of_lt (Nat.lt_of_lt_of_le (Heap.lt_size e) I.ok.above)
 have YM:∀b o,X.s₀.heap.get? b=some o→b∉X.ex→b∉ch:=fun b o e hx hb=>by
  rcases (hch b hb).1 with z | z
  ·exact hx z
  ·exact absurd (Nat.lt_of_lt_of_le (Heap.lt_size e) z) (Nat.lt_irrefl _)
 have cellK:∀x c,X.env.cells.lookup x=some c→∀v,s.heap.IsCell c v→h'.IsCell c v:=fun x c e v aV=>by
  obtain ⟨o,ho,hd⟩:=aV
  have WD:c∉ch:=fun z=>(hch c z).2.2.1 x c e rfl
  by_cases hc:c∈X.fs
  ·obtain ⟨sl,q⟩:=slot c o (I.Ue x c e) hc WD ho (I.lY x c e)
   exact ⟨_,q,hd⟩
  ·exact ⟨o,keep c o (I.Ue x c e) hc WD ho (I.lY x c e),hd⟩
 refine ⟨I.ok,I.os,hg,⟨fun b o e n hb hx=>?_,fun b o e n hb hx=>?_,fun b o e n hx=>?_,fun b o e hx=>?_,fun b xs e=>tups b xs (I.base.tups b xs e),fun b o xs e=>qT b o xs (I.base.qT b o xs e),fun b ps e=>?_⟩,?_,fun x c e=>?_,?_,fun x c e=>?_,fun p hp=>?_,hok,I.len⟩
 ·exact keep b o (neL b o e) hb (YM b o e hx) (I.base.keep b o e n hb hx) (I.base.free b o e n hx)
 ·obtain ⟨sl,e1⟩:=I.base.slot b o e n hb hx
  obtain ⟨sl',e2⟩:=slot b _ (neL b o e) hb (YM b o e hx) e1 (I.base.free b o e n hx)
  exact ⟨sl',e2⟩
 ·obtain ⟨o',e1⟩:=I.base.there b o e hx
  exact free b o' (YM b o e hx) e1 (I.base.free b o e n hx)
 ·obtain ⟨o',e1⟩:=I.base.there b o e hx
  exact there b o' (YM b o e hx) e1
 ·obtain ⟨m1,e1⟩:=I.base.tV b ps e
  obtain ⟨m2,e2⟩:=tV b _ e1
  exact ⟨m1++m2,by rw [e2,Array.append_assoc]⟩
 ·obtain ⟨m,hn,hl⟩:=I.loc
  refine ⟨m,ns m hn,fun i x v e1 e2 e3=>?_⟩
  obtain ⟨u,r,l⟩:=hl i x v e1 e2 e3
  refine ⟨u,r,?_⟩
  rcases l with l | ⟨k,c,e,z⟩
  ·exact .inl l
  ·exact .inr ⟨k,c,e,cellK x c e _ z⟩
 ·obtain ⟨v,z⟩:=I.cell x c e
  exact ⟨v,cellK x c e v z⟩
 ·obtain ⟨m,⟨o,_,_,ho,_⟩,_⟩:=I.loc
  exact free _ o (fun z=>(hch _ z).2.1 rfl) ho I.free
 ·obtain ⟨v,o,ho,hd⟩:=I.cell x c e
  exact free c o (fun z=>(hch c z).2.2.1 x c e rfl) ho (I.lY x c e)
 ·obtain ⟨e,n,ne,nf,d⟩:=I.pin p hp
  have WD:p.1∉ch:=fun z=>(hch p.1 z).2.2.2 p hp rfl
  exact ⟨keep p.1 p.2 ne nf WD e n,free p.1 p.2 WD e n,ne,nf,d⟩
theorem Inv.un {t':Nat} (I:Inv X pins σ H s) (u:Un X.fs [] H H' s.heap h') (hok:pM X.prog X.w H' h'):Inv X pins σ H' { s with heap:=h',toks:=t' }:=by
 obtain ⟨m,⟨o,es,ep,ho,r⟩,_⟩:=id I.loc
 obtain ⟨sl,hL⟩:=u.any ho I.free (by simp)
 exact I.step (g':=s.gens) (d':=s.drawn) (ch:=[]) (fun _ z=>nomatch z) (fun b o _ hb _ e n=>u.keep b o e n hb (by simp)) (fun b o _ hb _ e n=>u.slot b o e n hb (by simp)) (fun b o _ e n=>u.free b o e n (by simp)) (fun b o _ e=>u.there b o e (by simp)) u.tups u.qT u.tV (fun m' hm=>by
  obtain ⟨o',es',ep',ho',r'⟩:=hm
  rw [ho] at ho'; cases ho'
  exact ⟨_,es',ep',hL,r'⟩) hok I.bare
theorem Inv.call {g':Array GenState} {t':Nat} {d':Drawn} {ch:List Addr} (I:Inv X pins σ H s) (u:Un (frs X.stack) ch H H' s.heap h') (hok:pM X.prog X.w H' h') (hg:AllBare g')
  (hch:∀b∈ch,(b∈X.ex∨X.s₀.heap.objs.size≤b)∧b≠X.env.locals∧(∀x c,X.env.cells.lookup x=some c→c≠b)∧∀p∈X.pn++pins,p.1≠b):
  Inv X pins σ H' { s with heap:=h',gens:=g',drawn:=d',toks:=t' }:=by
 obtain ⟨m,⟨o,es,ep,ho,r⟩,_⟩:=id I.loc
 obtain ⟨sl,hL⟩:=u.any ho I.free fun z=>(hch _ z).2.1 rfl
 exact I.step (ch:=ch) hch (fun b o hL hb hc e n=>u.keep b o e n (fun z=>(List.mem_cons.mp (I.qU b z)).elim hL hb) hc) (fun b o _ _ hc e n=>u.any e n hc) (fun b o hc e n=>u.free b o e n hc) (fun b o hc e=>u.there b o e hc) u.tups u.qT u.tV (fun m' hm=>by
  obtain ⟨o',es',ep',ho',r'⟩:=hm
  rw [ho] at ho'; cases ho'
  exact ⟨_,es',ep',hL,r'⟩) hok hg
theorem Inv.turned {t':Nat} {it:Addr} (I:Inv X pins σ H s) (k:∀b o,b≠it→s.heap.get? b=some o→h'.get? b=some o) (hn:H it=none) (hL:it≠X.env.locals)
  (h1:it∈X.ex∨X.s₀.heap.objs.size≤it) (h2:∀x c,X.env.cells.lookup x=some c→c≠it) (h3:∀p∈X.pn++pins,p.1≠it):Inv X pins σ H { s with heap:=h',toks:=t' }:=by
 have WK:∀b u,H b=some u→b≠it:=fun b u e z=>by rw [z,hn] at e; cases e
 refine I.step (g':=s.gens) (d':=s.drawn) (ch:=[it]) (fun b hb=>?_) (fun b o _ _ hc e _=>k b o (fun z=>hc (by simp [z])) e) (fun b o _ _ hc e _=>⟨o.slots,k b o (fun z=>hc (by simp [z])) e⟩) (fun _ _ _ _ n=>n)
  (fun b o hc e=>⟨o,k b o (fun z=>hc (by simp [z])) e⟩) (fun _ _ e=>e) (fun _ _ _ e=>e) (fun b ps e=>⟨#[],by rw [e]; simp⟩) (fun m hm=>?_) (fun b u e=>?_) I.bare
 ·have e:b=it:=by simpa using hb
  subst e
  exact ⟨h1,hL,h2,h3⟩
 ·obtain ⟨o,es,ep,ho,r⟩:=hm
  exact ⟨o,es,ep,k _ o (Ne.symm hL) ho,r⟩
 ·refine (I.hok b u e).stay (fun c v hc q=>k c v ?_ q) (fun _ q=>q) fun _ _ q=>q
  rcases hc with z | z
  ·rw [z]; exact WK b u e
  ·exact WK c _ z
theorem Inv.tok (I:Inv X pins σ H s) (t:Nat):Inv X pins σ H { s with toks:=t }:=I.un (h':=s.heap) (t':=t) Un.refl I.hok
theorem Inv.kept {t':Nat} (I:Inv X pins σ H s) (k:∀b u,s.heap.get? b=some u→h'.get? b=some u):Inv X pins σ H { s with heap:=h',toks:=t' }:=I.un (Un.kept k) (I.hok.kept k)
theorem Inv.laid {a:Addr} {o:HO} {t':Nat} (I:Inv X pins σ H s) (k:∀b u,s.heap.get? b=some u→h'.get? b=some u) (hp:s.heap.objs.size≤a) (new:bW X.prog X.w (upd H a o) h' a o):
  Inv X pins σ (upd H a o) { s with heap:=h',toks:=t' }:=I.un (Un.laid k hp (I.hok.fresh hp)) (I.hok.laid k hp new)
theorem Inv.write {x e:Addr} {o:HO} {t':Nat} (I:Inv X pins σ H s) (mu:Wy (H x)) (he:e=x∨H e=some (.own x)) (k:∀b u,b≠e→s.heap.get? b=some u→h'.get? b=some u) (heo:∃u,h'.get? e=some u)
  (new:bW X.prog X.w (upd H x o) h' x o):Inv X pins σ (upd H x o) { s with heap:=h',toks:=t' }:=I.un (Un.write mu he k heo) (I.hok.write mu he k heo new)
theorem Inv.weak {σ':List (Option V)} (I:Inv X pins σ H s) (hl:σ'.length=σ.length) (w:∀(i:Nat) v,σ'[i]?=some (some v)→σ[i]?=some (some v)):Inv X pins σ' H s:=
 ⟨I.ok,I.os,I.bare,I.base,let ⟨m,hn,hl'⟩:=I.loc; ⟨m,hn,fun i x v e1 e2 e3=>hl' i x v e1 (w i v e2) e3⟩,I.cell,I.free,I.lY,I.pin,I.hok,hl.trans I.len⟩
theorem Inv.GF {GJ:List (Addr×Obj)} (I:Inv X pins σ H s) (h:∀p∈GJ,s.heap.get? p.1=some p.2∧H p.1=none∧p.1≠X.env.locals∧p.1∉X.fs∧∀v,p.2.data≠.cell v):Inv X GJ σ H s:=
 ⟨I.ok,I.os,I.bare,I.base,I.loc,I.cell,I.free,I.lY,fun p hp=>(List.mem_append.mp hp).elim (fun z=>I.pin p (List.mem_append_left _ z)) (h p),I.hok,I.len⟩
theorem Ao {N:List Str} (hN:N.Nodup) {i j:Nat} {x:Str} (a:N[i]?=some x) (b:N[j]?=some x):i=j:=by
 obtain ⟨h1,e1⟩:=List.getElem?_eq_some_iff.mp a
 obtain ⟨h2,e2⟩:=List.getElem?_eq_some_iff.mp b
 exact (List.getElem_inj hN).mp (e1.trans e2.symm)
theorem qW {M:Model} {A:Around} {E:Value→Shared→Prop} {i:Nat} {x:Str} {v:V} {u:Value} {Q:Unit→Shared→Prop} (I:Inv X pins σ H s) (hN:X.N.Nodup) (hi:X.N[i]?=some x) (hx:Loc X.env.scope x) (r:RelV v u)
  (h:∀s',Inv X pins (σ.set i (some v)) H s'→(∃a,Heap.SameBut a s.heap s'.heap∧(a=X.env.locals∨X.env.cells.lookup x=some a))→Q () s') (hf:X.fn x=true∨X.env.scope.names.lookup x=some .local:=by first | exact .inl rfl | exact .inr rfl | assumption):wpAny M A (storeName X.env x u) Q E s:=by
 obtain ⟨m,hn,hl⟩:=id I.loc
 have hcls:(X.env.scope.kind==.class || (X.env.scope.kind==.module&&X.env.locals != X.env.globals))=false:=by rw [I.ok.kind]; rfl
 have hiσ:i < σ.length:=by rw [I.len]; exact (List.getElem?_eq_some_iff.mp hi).1
 have Ue:=I.Ue
 have tracked:∀{a:Addr} {h':Heap},(∃o,s.heap.get? a=some o∧H a=none)→Heap.SameBut a s.heap h'→pM X.prog X.w H h':=fun {a h'} ha hs b ob e=>by
  obtain ⟨_,_,hfree⟩:=ha
  refine (I.hok b ob e).stay (fun c w' hc q=>(hs.2 c ?_).trans q) (fun _ q=>q) fun _ _ q=>q
  rintro rfl
  rcases hc with rfl | hc
  ·rw [hfree] at e; cases e
  ·rw [hfree] at hc; cases hc
 rcases hx with hk | hk
 ·refine wpAny_storeName_local hk hn (fun h' hn' hs=>?_) hcls
  obtain ⟨oL,_,_,hoL,_⟩:=id hn
  refine h _ ⟨I.ok,I.os,I.bare,⟨fun b o e n hb hx=>?_,fun b o e n hb hx=>?_,I.base.free,fun b o e hx=>?_,I.base.tups,I.base.qT,I.base.tV⟩,⟨_,hn',fun j y v' e1 e2 e3=>?_⟩,fun y c e=>?_,I.free,I.lY,fun p hp=>?_,tracked ⟨oL,hoL,I.free⟩ hs,by simpa using I.len⟩ ⟨_,hs,.inl rfl⟩
  ·exact (hs.2 b (Nat.ne_of_lt (Nat.lt_of_lt_of_le (Heap.lt_size e) I.ok.above))).trans (I.base.keep b o e n hb hx)
  ·obtain ⟨sl,e1⟩:=I.base.slot b o e n hb hx
   exact ⟨sl,(hs.2 b (Nat.ne_of_lt (Nat.lt_of_lt_of_le (Heap.lt_size e) I.ok.above))).trans e1⟩
  ·obtain ⟨o',e1⟩:=I.base.there b o e hx
   exact ⟨o',(hs.2 b (Nat.ne_of_lt (Nat.lt_of_lt_of_le (Heap.lt_size e) I.ok.above))).trans e1⟩
  ·by_cases hj:j=i
   ·subst hj
    rw [hi] at e1; cases e1
    rw [List.getElem?_set_self hiσ] at e2
    cases e2
    exact ⟨u,r,.inl ⟨hk,by simp⟩⟩
   ·rw [List.getElem?_set_ne (Ne.symm hj)] at e2
    obtain ⟨u',r',q⟩:=hl j y v' e1 e2 e3
    refine ⟨u',r',?_⟩
    rcases q with ⟨k,e⟩ | ⟨k,c,e,z⟩
    ·refine .inl ⟨k,?_⟩
     have:y≠x:=fun e=>hj (Ao hN e1 (e ▸ hi))
     simp [this,e]
    ·exact .inr ⟨k,c,e,z.sameBut hs (Ue y c e)⟩
  ·obtain ⟨w',z⟩:=I.cell y c e
   exact ⟨w',z.sameBut hs (Ue y c e)⟩
  ·obtain ⟨e,n,ne,nf,d⟩:=I.pin p hp
   exact ⟨(hs.2 p.1 ne).trans e,n,ne,nf,d⟩
 ·have hfn:X.fn x=true:=by
   rcases hf with z | z
   ·exact z
   ·rw [z] at hk; cases hk
  obtain ⟨c,hc⟩:=I.ok.has x (.inl hk)
  obtain ⟨w',z⟩:=I.cell x c hc
  refine wpAny_storeName_cell I.ok.kind hk hc z (fun h' hc' hs=>?_)
  obtain ⟨oc,hoc,Zw⟩:=id z
  refine h { s with heap:=h' } ⟨I.ok,I.os,I.bare,⟨fun b o e n hb hx=>?_,fun b o e n hb hx=>?_,I.base.free,fun b o e hx=>?_,I.base.tups,I.base.qT,I.base.tV⟩,⟨m,hn.sameBut hs (Ne.symm (Ue x c hc)),fun j y v' e1 e2 e3=>?_⟩,fun y c' e=>?_,I.free,I.lY,fun p hp=>?_,tracked ⟨oc,hoc,I.lY x c hc⟩ hs,by simpa using I.len⟩ ⟨c,hs,.inr hc⟩
  ·exact (hs.2 b (Nat.ne_of_lt (Nat.lt_of_lt_of_le (Heap.lt_size e) (I.ok.cab x c hfn hc)))).trans (I.base.keep b o e n hb hx)
  ·obtain ⟨sl,e1⟩:=I.base.slot b o e n hb hx
   exact ⟨sl,(hs.2 b (Nat.ne_of_lt (Nat.lt_of_lt_of_le (Heap.lt_size e) (I.ok.cab x c hfn hc)))).trans e1⟩
  ·obtain ⟨o',e1⟩:=I.base.there b o e hx
   exact ⟨o',(hs.2 b (Nat.ne_of_lt (Nat.lt_of_lt_of_le (Heap.lt_size e) (I.ok.cab x c hfn hc)))).trans e1⟩
  ·by_cases hj:j=i
   ·subst hj
    rw [hi] at e1; cases e1
    rw [List.getElem?_set_self hiσ] at e2
    cases e2
    exact ⟨u,r,.inr ⟨.inl hk,c,hc,hc'⟩⟩
   ·rw [List.getElem?_set_ne (Ne.symm hj)] at e2
    obtain ⟨u',r',q⟩:=hl j y v' e1 e2 e3
    refine ⟨u',r',?_⟩
    rcases q with q | ⟨k,c',e,z'⟩
    ·exact .inl q
    ·refine .inr ⟨k,c',e,z'.sameBut hs ?_⟩
     rintro rfl
     exact hj (Ao hN e1 (I.ok.inj _ _ _ e hc ▸ hi))
  ·by_cases hcc:c'=c
   ·subst hcc; exact ⟨_,hc'⟩
   ·obtain ⟨w2,z2⟩:=I.cell y c' e
    exact ⟨w2,z2.sameBut hs hcc⟩
  ·obtain ⟨e,n,ne,nf,d⟩:=I.pin p hp
   refine ⟨(hs.2 p.1 ?_).trans e,n,ne,nf,d⟩
   intro q
   rw [q,hoc] at e
   have q':oc=p.2:=Option.some.inj e
   exact d w' (by rw [←q']; exact Zw)
theorem jP {M:Model} {A:Around} {E:Value→Shared→Prop} {i:Nat} {x:Str} {v:V} {u:Value} {Q:Unit→Shared→Prop} (I:Inv X pins σ H s) (hN:X.N.Nodup) (hi:X.N[i]?=some x) (hx:Loc X.env.scope x) (r:RelV v u)
  (h:∀s',Inv X pins (σ.set i (some v)) H s'→Q () s') (hf:X.fn x=true∨X.env.scope.names.lookup x=some .local:=by first | exact .inl rfl | exact .inr rfl | assumption):wpAny M A (storeName X.env x u) Q E s:=
 qW I hN hi hx r (fun s' I' _=>h s' I') hf
theorem Inv.call' {s':Shared} {ch:List Addr} (I:Inv X pins σ H s) (ho:s'.os=s.os) (u:Un (frs X.stack) ch H H' s.heap s'.heap) (hok:pM X.prog X.w H' s'.heap) (hg:AllBare s'.gens)
  (hch:∀b∈ch,(b∈X.ex∨X.s₀.heap.objs.size≤b)∧b≠X.env.locals∧(∀x c,X.env.cells.lookup x=some c→c≠b)∧∀p∈X.pn++pins,p.1≠b):Inv X pins σ H' s':=by
 obtain ⟨h',g',d',t',o'⟩:=s'
 have e:o'=s.os:=ho
 subst e
 exact I.call (g':=g') (t':=t') (d':=d') u hok hg hch
end
noncomputable abbrev XK:=Value→Option Addr→Hp→Prop
noncomputable abbrev St:=List (Option V)
noncomputable abbrev VK:=V→Hp→Prop
noncomputable abbrev TE:=St→Hp→VK→Prop
noncomputable abbrev TT:=St→Hp→(Bool→Hp→Prop)→Prop
noncomputable abbrev TA:=St→Hp→(List V→Hp→Prop)→Prop
structure Ends where
 nx:St→Hp→Prop
 rt:VK
 bk:St→Hp→Prop:=fun _ _=>False
 ct:St→Hp→Prop:=fun _ _=>False
noncomputable abbrev TS:=Ends→St→Hp→Prop
noncomputable def EP (X:Cx) (pins:List (Addr×Obj)) (σ:St) (Q:VK) (u:Value) (s':Shared):Prop:=∃v H',Inv X pins σ H' s'∧RelV v u∧Q v H'
noncomputable def TP (X:Cx) (pins:List (Addr×Obj)) (σ:St) (Q:Bool→Hp→Prop) (b:Bool) (s':Shared):Prop:=∃H',Inv X pins σ H' s'∧Q b H'
noncomputable def AP (X:Cx) (pins:List (Addr×Obj)) (σ:St) (Q:List V→Hp→Prop) (us:List Value) (s':Shared):Prop:=∃vs H',Inv X pins σ H' s'∧Vals vs us∧Q vs H'
noncomputable def SP (X:Cx) (pins:List (Addr×Obj)) (D:Ends) (f:Flow) (s':Shared):Prop:=
 match f with
 | .next=>∃σ' H',Inv X pins σ' H' s'∧D.nx σ' H'
 | .brk=>∃σ' H',Inv X pins σ' H' s'∧D.bk σ' H'
 | .cont=>∃σ' H',Inv X pins σ' H' s'∧D.ct σ' H'
 | .ret u=>∃v σ' H',Inv X pins σ' H' s'∧RelV v u∧D.rt v H'
noncomputable def PE (X:Cx) (e:Expr) (t:TE):Prop:=
 ∀(pins:List (Addr×Obj)) (s:Shared) (σ:St) (H:Hp) (Q:VK),Inv X pins σ H s→t σ H Q→wpAny (model X.prog X.w) X.A (eval e X.env) (EP X pins σ Q) X.xe s
noncomputable def PT (X:Cx) (e:Expr) (t:TT):Prop:=
 ∀(pins:List (Addr×Obj)) (s:Shared) (σ:St) (H:Hp) (Q:Bool→Hp→Prop),Inv X pins σ H s→t σ H Q→wpAny (model X.prog X.w) X.A (isTrue e X.env (eval e X.env)) (TP X pins σ Q) X.xe s
noncomputable def PW (X:Cx) (e:Expr) (t:TT):Prop:=
 ∀(whole:Sem Value) (pins:List (Addr×Obj)) (s:Shared) (σ:St) (H:Hp) (Q:Bool→Hp→Prop),Inv X pins σ H s→t σ H Q→wpAny (model X.prog X.w) X.A (isTrue e X.env whole) (TP X pins σ Q) X.xe s
theorem PW.pt {X:Cx} {e:Expr} {t:TT} (h:PW X e t):PT X e t:=h _
noncomputable def PA (X:Cx) (es:List Expr) (t:TA):Prop:=
 ∀(pos:Pos) (pins:List (Addr×Obj)) (s:Shared) (σ:St) (H:Hp) (Q:List V→Hp→Prop),Inv X pins σ H s→t σ H Q→wpAny (model X.prog X.w) X.A (spliced (backTo pos (starEach es X.env))) (AP X pins σ Q) X.xe s
noncomputable def PS (X:Cx) (st:Stmt) (t:TS):Prop:=
 ∀(pins:List (Addr×Obj)) (s:Shared) (σ:St) (H:Hp) (D:Ends),Inv X pins σ H s→t D σ H→wpAny (model X.prog X.w) X.A (exec st X.env) (SP X pins D) X.xe s
noncomputable def tX (X:Cx) (st:List Stmt) (t:TS):Prop:=
 ∀(pins:List (Addr×Obj)) (s:Shared) (σ:St) (H:Hp) (D:Ends),Inv X pins σ H s→t D σ H→wpAny (model X.prog X.w) X.A (execs st X.env) (SP X pins D) X.xe s
theorem cU {α:Type} {t:Sem α} {Q Q':α→Shared→Prop} {M:Model} {A:Around} {E:Value→Shared→Prop} {s:Shared} (h:wpAny M A t Q E s) (hQ:∀a s,Q a s→Q' a s):wpAny M A t Q' E s:=wpAny_mono h hQ fun _ _ x=>x
end L2
namespace L2
open PySem PySem.Spec PyProof.Rows
section
variable {X:Cx}
noncomputable def wK (i:Nat):TE:=fun σ H Q=>∃v,σ[i]?=some (some v)∧Q v H
noncomputable def tC (v:V):TE:=fun _ H Q=>Q v H
theorem Ug {i:Nat} {x:Str} {pos:Pos} (hN:X.N[i]?=some x) (hv:Zt X.env.scope x) (hd:(x==("__debug__":Str))=false:=by decide) (hcd:(x==("__classdict__":Str))=false:=by decide):PE X (.Name x pos) (wK i):=by
 intro pins s σ H Q I h
 obtain ⟨v,e,h⟩:=h
 obtain ⟨m,hn,hl⟩:=I.loc
 obtain ⟨u,r,l⟩:=hl i x v hN e hv
 have fin:EP X pins σ Q u s:=⟨v,H,I,r,h⟩
 rcases l with ⟨hk,hm⟩ | ⟨hk,c,hc,hcell⟩
 ·exact wpAny_Name (wpAny_loadName_local I.ok.kind hk hn hm fin) hd
 ·rcases hk with hk | hk
  ·exact wpAny_Name (wpAny_loadName_cell I.ok.kind hk hc hcell fin) hd
  ·exact wpAny_Name (wpAny_loadName_free I.ok.kind hk hc hcell fin hcd) hd
theorem au {i j pos}:PE X (.Constant (.int i) j pos) (tC (.int i)):=fun _ _ _ H _ I h=>wpAny_Constant_int ⟨.int i,H,I.tok _,⟨_,rfl⟩,h⟩
theorem sS {b j pos}:PE X (.Constant (.bool b) j pos) (tC (.bl b)):=fun _ _ _ H _ I h=>Constant_bool ⟨.bl b,H,I,rfl,h⟩
theorem K1 {j pos}:PE X (.Constant .none j pos) (tC .non):=fun _ _ _ H _ I h=>Constant_none ⟨.non,H,I,rfl,h⟩
theorem lZ {x j pos}:PE X (.Constant (.str x) j pos) (tC (.str x)):=fun _ _ _ H _ I h=>Calls.Constant_str ⟨.str x,H,I.tok _,⟨_,rfl⟩,h⟩
noncomputable def Gl (X:Cx) (x:Str):Prop:=X.env.kindOf x=some .globalImplicit
theorem GK {E:Value→Shared→Prop} {pins:List (Addr×Obj)} {s:Shared} {σ:St} {H:Hp} {x:Str} {u:Value} {pos:Pos} {Q:Value→Shared→Prop} (I:Inv X pins σ H s) (hg:Gl X x) (hm:X.mg x=some u) (h:Q u s)
  (hd:(x==("__debug__":Str))=false:=by decide):wpAny (model X.prog X.w) X.A (eval (.Name x pos) X.env) Q E s:=
 Calls.Name_function_global I.ok.kind hg (Calls.loadGlobal_global (by rw [I.ok.glob]; exact I.mod.glob.keeps I.bk) hm h) hd
theorem jy {E:Value→Shared→Prop} {pins:List (Addr×Obj)} {s:Shared} {σ:St} {H:Hp} {x:Str} {u:Value} {pos:Pos} {Q:Value→Shared→Prop} (I:Inv X pins σ H s) (hg:Gl X x) (hm:X.mg x=none) (hv:bootBuiltins x=some u) (h:Q u s)
  (hn:x≠"__name__":=by decide) (hd:(x==("__debug__":Str))=false:=by decide):wpAny (model X.prog X.w) X.A (eval (.Name x pos) X.env) Q E s:=by
 obtain ⟨mb,h1,h2⟩:=I.mod.blt
 exact Calls.Name_function_global I.ok.kind hg (Calls.loadGlobal_builtin (by rw [I.ok.glob]; exact I.mod.glob.keeps I.bk) hm (by rw [I.ok.blt]; exact h1.keeps I.bk) ((h2 x hn).trans hv) h) hd
theorem eO {x:Str} {v:V} {u:Value} {pos:Pos} (hg:Gl X x) (hm:X.mg x=none) (hv:bootBuiltins x=some u) (r:RelV v u) (hn:x≠"__name__":=by decide) (hd:(x==("__debug__":Str))=false:=by decide):PE X (.Name x pos) (tC v):=
 fun _ _ _ H _ I h=>jy I hg hm hv ⟨v,H,I,r,h⟩ hn hd
variable {a b:Expr} {ta tb:TE} {pos:Pos}
variable {tA YQ:TT} {rest:List Expr}
noncomputable def WL (t u:TT):TT:=fun σ H Q=>t σ H fun c H1=>if c=true then u σ H1 Q else Q false H1
noncomputable def tOr (t u:TT):TT:=fun σ H Q=>t σ H fun c H1=>if c=true then Q true H1 else u σ H1 Q
noncomputable def Zx (t:TT):TT:=fun σ H Q=>t σ H fun c H1=>Q (!c) H1
theorem pw_and1 (ha:PT X a tA):PW X (.BoolOp .And [a] pos) tA:=by
 intro wh pins s σ H Q I h
 refine isTrue_and (cU (ha pins s σ H Q I h) fun c s1 e=>?_)
 cases c with
 | true=>exact isTrue_and_nil e
 | false=>exact e
theorem pw_or1 (ha:PT X a tA):PW X (.BoolOp .Or [a] pos) tA:=by
 intro wh pins s σ H Q I h
 refine isTrue_or (cU (ha pins s σ H Q I h) fun c s1 e=>?_)
 cases c with
 | false=>exact isTrue_or_nil e
 | true=>exact e
theorem pw_and (ha:PT X a tA) (hb:PW X (.BoolOp .And (b::rest) pos) YQ):PW X (.BoolOp .And (a::b::rest) pos) (WL tA YQ):=by
 intro wh pins s σ H Q I h
 refine isTrue_and (cU (ha pins s σ H _ I h) fun c s1 aV=>?_)
 obtain ⟨H1,I1,q1⟩:=aV
 cases c with
 | true=>exact hb wh pins s1 σ H1 Q I1 q1
 | false=>exact ⟨H1,I1,q1⟩
theorem pw_or (ha:PT X a tA) (hb:PW X (.BoolOp .Or (b::rest) pos) YQ):PW X (.BoolOp .Or (a::b::rest) pos) (tOr tA YQ):=by
 intro wh pins s σ H Q I h
 refine isTrue_or (cU (ha pins s σ H _ I h) fun c s1 aV=>?_)
 obtain ⟨H1,I1,q1⟩:=aV
 cases c with
 | true=>exact ⟨H1,I1,q1⟩
 | false=>exact hb wh pins s1 σ H1 Q I1 q1
theorem Uh (ha:PT X a tA):PT X (.UnaryOp .Not a pos) (Zx tA):=by
 intro pins s σ H Q I h
 exact isTrue_not (ha pins s σ H (fun c H1=>Q (!c) H1) I h)
noncomputable def WM (ta tb:TE):TE:=fun σ H Q=>ta σ H fun x H1=>∃c,x=.bl c∧if c=true then tb σ H1 Q else Q (.bl false) H1
noncomputable def WN (ta:TE):TE:=fun σ H Q=>ta σ H fun x H1=>∃c,x=.bl c∧Q (.bl (!c)) H1
theorem Ui {op} {t:TE} (h:PE X a t):PE X (.BoolOp op [a] pos) t:=fun pins s σ H Q I hw=>BoolOp_one (h pins s σ H Q I hw)
theorem Uj (ha:PE X a ta) (hb:PE X (.BoolOp .And (b::rest) pos) tb):PE X (.BoolOp .And (a::b::rest) pos) (WM ta tb):=by
 intro pins s σ H Q I h
 refine BoolOp_and (cU (ha pins s σ H _ I h) fun v s1 aV=>?_)
 obtain ⟨x,H1,I1,r1,q1⟩:=aV
 obtain ⟨c,rfl,q1⟩:=q1
 cases r1
 refine wpAny_truthy_bool ?_
 cases c with
 | true=>exact hb pins s1 σ H1 Q I1 q1
 | false=>exact ⟨.bl false,H1,I1,rfl,q1⟩
theorem Uk (ha:PE X a ta):PE X (.UnaryOp .Not a pos) (WN ta):=by
 intro pins s σ H Q I h
 refine UnaryOp_ (cU (ha pins s σ H _ I h) fun v s1 aV=>?_)
 obtain ⟨x,H1,I1,r1,q1⟩:=aV
 obtain ⟨c,rfl,q1⟩:=q1
 cases r1
 exact not_of (wpAny_truthy_bool ⟨.bl (!c),H1,I1,rfl,q1⟩)
noncomputable def tIf (t:TT) (ta tb:TE):TE:=fun σ H Q=>t σ H fun c H1=>if c=true then ta σ H1 Q else tb σ H1 Q
theorem K3 {c:Expr} (hc:PT X c tA) (ha:PE X a ta) (hb:PE X b tb):PE X (.IfExp c a b pos) (tIf tA ta tb):=by
 intro pins s σ H Q I h
 refine wpAny_IfExp (cU (hc pins s σ H _ I h) fun d s1 aV=>?_)
 obtain ⟨H1,I1,q1⟩:=aV
 cases d with
 | true=>exact ha pins s1 σ H1 Q I1 q1
 | false=>exact hb pins s1 σ H1 Q I1 q1
end
end L2
namespace L2
open PySem PySem.Spec PyProof.Rows
noncomputable def cO (K:PySem.W.Frag) (H:Hp) (a:Addr) (xs:List V):Prop:=
 Rd H a (.lst xs)∨
  ∃(o:Obj) (its:Array Value) (n:Nat),K.lookup a=some o∧o.cls=.type "list"∧o.dict=none∧o.data=.seq its n∧its.size≤sizeLine∧Vals xs its.toList
noncomputable def eX (K:PySem.W.Frag) (H:Hp) (a:Addr) (xs:List V):Prop:=
 Rd H a (.tup xs)∨
  ∃(o:Obj) (its:Array Value) (n:Nat),K.lookup a=some o∧o.cls=.type "tuple"∧o.data=.seq its n∧its.size≤sizeLine∧Vals xs its.toList
noncomputable def Zy:Value→Option V
 | .none=>some .non
 | .bool b=>some (.bl b)
 | .int i _=>some (.int i)
 | .str x _=>some (.str x)
 | .bytes b _=>some (.Jk b)
 | .float b _=>some (.flt b)
 | .ref a=>some (.ref a)
 | .type n=>some (.ty n)
 | _=>none
theorem RelV.abs {x:V} {u:Value} (r:RelV x u):Zy u=some x:=by
 cases x with
 | non=>cases r; rfl
 | bl _=>cases r; rfl
 | int _=>obtain ⟨t,rfl⟩:=r; rfl
 | str _=>obtain ⟨t,rfl⟩:=r; rfl
 | Jk _=>obtain ⟨t,rfl⟩:=r; rfl
 | flt _=>obtain ⟨t,rfl⟩:=r; rfl
 | ref _=>cases r; rfl
 | ty _=>cases r; rfl
theorem RelV.inj {x y:V} {u:Value} (r:RelV x u) (q:RelV y u):x=y:=Option.some.inj (r.abs.symm.trans q.abs)
theorem Vals.inj:∀{xs ys:List V} {us:List Value},Vals xs us→Vals ys us→xs=ys
 | _,_,_,.nil,.nil=>rfl
 | _,_,_,.cons r t,.cons r' t'=>by rw [r.inj r',Vals.inj t t']
section
variable {X:Cx} {pins:List (Addr×Obj)} {σ:St} {H:Hp} {s:Shared} {a:Addr} {xs ys:List V}
theorem cO.of {K:PySem.W.Frag} (h:H a=some (.lst xs)):cO K H a xs:=.inl (.inl h)
theorem eX.of {K:PySem.W.Frag} (h:H a=some (.tup xs)):eX K H a xs:=.inl (.inl h)
theorem Inv.list (I:Inv X pins σ H s) (h:cO X.K H a xs):∃its:List Value,Vals xs its∧PlainL s.heap a its.toArray∧xs.length≤sizeLine:=by
 rcases h with h | ⟨o,its,n,hk,hc,hd,hs,hz,r⟩
 ·obtain ⟨z,its,n,r,e⟩:=h.ok I.hok
  exact ⟨its,r,⟨_,n,e,rfl,rfl,rfl⟩,z⟩
 ·refine ⟨its.toList,r,⟨o,n,I.pO a o hk,hc,hd,by simpa using hs⟩,?_⟩
  have e:=r.length
  simp only [Array.length_toList] at e
  omega
theorem Inv.tuple (I:Inv X pins σ H s) (h:eX X.K H a xs):∃its:List Value,Vals xs its∧IsTup s.heap a its.toArray∧xs.length≤sizeLine:=by
 rcases h with h | ⟨o,its,n,hk,hc,hs,hz,r⟩
 ·obtain ⟨z,its,r,p⟩:=h.ok I.hok
  exact ⟨its,r,p,z⟩
 ·refine ⟨its.toList,r,⟨o,I.pO a o hk,hc,n,by simpa using hs⟩,?_⟩
  have e:=r.length
  simp only [Array.length_toList] at e
  omega
theorem Inv.uw (I:Inv X pins σ H s) (h:cO X.K H a xs) (h':cO X.K H a ys):xs=ys:=by
 obtain ⟨its,r,⟨o,n,e,_,_,d⟩,_⟩:=I.list h
 obtain ⟨its',r',⟨o',n',e',_,_,d'⟩,_⟩:=I.list h'
 rw [e] at e'; cases e'
 rw [d] at d'
 injection d' with d1 _
 have:its=its':=by simpa using congrArg Array.toList d1
 subst this
 exact r.inj r'
theorem Inv.qX (I:Inv X pins σ H s) (h:eX X.K H a xs) (h':eX X.K H a ys):xs=ys:=by
 obtain ⟨its,r,⟨o,e,_,n,d⟩,_⟩:=I.tuple h
 obtain ⟨its',r',⟨o',e',_,n',d'⟩,_⟩:=I.tuple h'
 rw [e] at e'; cases e'
 rw [d] at d'
 injection d' with d1 _
 have:its=its':=by simpa using congrArg Array.toList d1
 subst this
 exact r.inj r'
end
noncomputable abbrev Cx.wish (X:Cx) (E:Value→Shared→Prop):Cx:={ X with xe:=E }
noncomputable abbrev Cx.PX (X:Cx):Cx:=X.wish fun _ _=>False
theorem Cx.Ok.wish {X:Cx} (ok:X.Ok) (E:Value→Shared→Prop):(X.wish E).Ok:=
 ⟨ok.mod,ok.kind,ok.glob,ok.blt,ok.above,ok.inj,ok.has,ok.cab,ok.hd,ok.frames,ok.stk,ok.exf,ok.bs,ok.Pq,ok.KZ,ok.PN,ok.tW,ok.Ud⟩
theorem Cx.Ok.jz {X:Cx} {E:Value→Shared→Prop} (ok:(X.wish E).Ok):X.Ok:=
 ⟨ok.mod,ok.kind,ok.glob,ok.blt,ok.above,ok.inj,ok.has,ok.cab,ok.hd,ok.frames,ok.stk,ok.exf,ok.bs,ok.Pq,ok.KZ,ok.PN,ok.tW,ok.Ud⟩
section
variable {X:Cx} {pins:List (Addr×Obj)} {σ:St} {H:Hp} {s:Shared} {E:Value→Shared→Prop}
theorem Inv.wish (I:Inv X pins σ H s) (E:Value→Shared→Prop):Inv (X.wish E) pins σ H s:=⟨I.ok.wish E,I.os,I.bare,I.base,I.loc,I.cell,I.free,I.lY,I.pin,I.hok,I.len⟩
theorem Inv.jz (I:Inv (X.wish E) pins σ H s):Inv X pins σ H s:=⟨I.ok.jz,I.os,I.bare,I.base,I.loc,I.cell,I.free,I.lY,I.pin,I.hok,I.len⟩
theorem SP.jz {D:Ends} {f:Flow} {s':Shared} (h:SP (X.wish E) pins D f s'):SP X pins D f s':=by
 cases f with
 | next=>obtain ⟨σ',H',I,q⟩:=h; exact ⟨σ',H',I.jz,q⟩
 | brk=>obtain ⟨σ',H',I,q⟩:=h; exact ⟨σ',H',I.jz,q⟩
 | cont=>obtain ⟨σ',H',I,q⟩:=h; exact ⟨σ',H',I.jz,q⟩
 | ret u=>obtain ⟨v,σ',H',I,r,q⟩:=h; exact ⟨v,σ',H',I.jz,r,q⟩
theorem PE.PX {e:Expr} {t:TE} (h:PE X.PX e t):PE X e t:=fun pins s σ H Q I hw=>
 wpAny_mono (h pins s σ H Q (I.wish _) hw) (fun _ _ ⟨v,H',I',r,q⟩=>⟨v,H',I'.jz,r,q⟩) fun _ _ z=>False.elim z
theorem PT.PX {e:Expr} {t:TT} (h:PT X.PX e t):PT X e t:=fun pins s σ H Q I hw=>
 wpAny_mono (h pins s σ H Q (I.wish _) hw) (fun _ _ ⟨H',I',q⟩=>⟨H',I'.jz,q⟩) fun _ _ z=>False.elim z
theorem tX.PX {st:List Stmt} {t:TS} (h:tX X.PX st t):tX X st t:=fun pins s σ H D I hw=>
 wpAny_mono (h pins s σ H D (I.wish _) hw) (fun _ _ q=>q.jz) fun _ _ z=>False.elim z
end
section
variable {X:Cx} {st:Stmt} {rest:List Stmt} {t u:TS} {e:Expr} {te:TE} {pos:Pos}
noncomputable def WQ:TS:=fun D σ H=>D.nx σ H
noncomputable def WR (t u:TS):TS:=fun D σ H=>t { D with nx:=u D } σ H
theorem P0:tX X [] WQ:=fun _ _ σ H _ I h=>wpAny_execs_nil ⟨σ,H,I,h⟩
theorem K4 (h1:PS X st t) (h2:tX X rest u):tX X (st::rest) (WR t u):=by
 intro pins s σ H D I h
 refine wpAny_execs_cons (cU (h1 pins s σ H { D with nx:=u D } I h) fun f s1 q=>?_)
 cases f with
 | next=>
  obtain ⟨σ',H',I',q⟩:=q
  exact h2 pins s1 σ' H' D I' q
 | ret v=>exact q
 | brk=>exact q
 | cont=>exact q
theorem Qa (h1:PS X st t):tX X [st] t:=by
 intro pins s σ H D I h
 refine wpAny_execs_cons (cU (h1 pins s σ H D I h) fun f s1 q=>?_)
 cases f with
 | next=>exact wpAny_execs_nil q
 | ret v=>exact q
 | brk=>exact q
 | cont=>exact q
theorem Inv.quiet {pins:List (Addr×Obj)} {σ:St} {H:Hp} {s:Shared} (I:Inv X pins σ H s):interactive X.env=false:=by simp [interactive,I.ok.kind]
noncomputable def WT (te:TE):TS:=fun D σ H=>te σ H fun _ H1=>D.nx σ H1
theorem Qc (he:PE X e te) (hs:swapsWith e none pos.line X.env=pure false:=by rfl):PS X (.Expr e pos) (WT te):=by
 intro pins s σ H D I h
 exact wpAny_Expr_any (cU (he pins s σ H _ I h) fun v s1 ⟨x,H1,I1,r1,q1⟩=>⟨σ,H1,I1,q1⟩) I.quiet hs
noncomputable def Zz (te:TE):TS:=fun D σ H=>te σ H D.rt
theorem K5 (he:PE X e te):PS X (.Return (some e) pos) (Zz te):=by
 intro pins s σ H D I h
 exact wpAny_Return_some (cU (he pins s σ H _ I h) fun v s1 ⟨x,H1,I1,r1,q1⟩=>⟨x,σ,H1,I1,r1,q1⟩)
noncomputable def ZC (c:TT) (t u:TS):TS:=fun D σ H=>c σ H fun b H1=>if b=true then t D σ H1 else u D σ H1
theorem WW {c:Expr} {a b:List Stmt} {tc:TT} (hc:PT X c tc) (ha:tX X a t) (hb:tX X b u):PS X (.If c a b pos) (ZC tc t u):=by
 intro pins s σ H D I h
 refine wpAny_If (cU (hc pins s σ H _ I h) fun d s1 aV=>?_)
 obtain ⟨H1,I1,q1⟩:=aV
 cases d with
 | true=>exact ha pins s1 σ H1 D I1 q1
 | false=>exact hb pins s1 σ H1 D I1 q1
end
noncomputable abbrev TG:=V→St→Hp→(St→Hp→Prop)→Prop
noncomputable abbrev K6:=List V→St→Hp→(St→Hp→Prop)→Prop
noncomputable def PG (X:Cx) (target:Expr) (t:TG):Prop:=
 ∀(pins:List (Addr×Obj)) (s:Shared) (σ:St) (H:Hp) (v:V) (u:Value) (Q:St→Hp→Prop),Inv X pins σ H s→RelV v u→t v σ H Q→
  wpAny (model X.prog X.w) X.A (assign target X.env u) (fun _ s'=>∃σ' H',Inv X pins σ' H' s'∧Q σ' H') X.xe s
noncomputable def YS (X:Cx) (ts:List Expr) (t:K6):Prop:=
 ∀(pins:List (Addr×Obj)) (s:Shared) (σ:St) (H:Hp) (vs:List V) (us:List Value) (Q:St→Hp→Prop),Inv X pins σ H s→Vals vs us→t vs σ H Q→
  wpAny (model X.prog X.w) X.A (assignInOrder ((assignEach ts X.env).map (·.2)) us) (fun _ s'=>∃σ' H',Inv X pins σ' H' s'∧Q σ' H') X.xe s
noncomputable abbrev Qd:=V→V→V→Hp→(Hp→Prop)→Prop
noncomputable def yR (X:Cx) (t:Qd):Prop:=
 ∀(pins:List (Addr×Obj)) (s:Shared) (σ:St) (H:Hp) (o i v:V) (ov iv u:Value) (Q:Hp→Prop),Inv X pins σ H s→RelV o ov→RelV i iv→RelV v u→t o i v H Q→
  wpAny (model X.prog X.w) X.A (setItem ov iv u) (fun _ s'=>∃H',Inv X pins σ H' s'∧Q H') X.xe s
section
variable {X:Cx} {pos:Pos}
noncomputable def sU (i:Nat):TG:=fun v σ H Q=>Q (σ.set i (some v)) H
theorem bU {i:Nat} {x:Str} (hN:X.N.Nodup) (hi:X.N[i]?=some x) (hx:Loc X.env.scope x) (hf:X.fn x=true∨X.env.scope.names.lookup x=some .local:=by first | exact .inl rfl | exact .inr rfl | assumption):PG X (.Name x pos) (sU i):=by
 intro pins s σ H v u Q I r h
 exact wpAny_assign_Name (jP I hN hi hx r (fun s' I'=>⟨_,H,I',h⟩) hf)
noncomputable def Ul:K6:=fun vs σ H Q=>vs=[]∧Q σ H
noncomputable def K7 (t:TG) (u:K6):K6:=fun vs σ H Q=>∃v r,vs=v::r∧t v σ H fun σ' H'=>u r σ' H' Q
theorem yS:YS X [] Ul:=by
 intro pins s σ H vs us Q I r h
 obtain ⟨e,h⟩:=h
 subst e
 cases r
 exact assignInOrder_nil ⟨σ,H,I,h⟩
theorem gF {e:Expr} {es:List Expr} {t:TG} {u:K6} (h1:PG X e t) (h2:YS X es u)
  (hs:(assignEach (e::es) X.env).map (·.2)=assign e X.env::(assignEach es X.env).map (·.2):=by rfl):YS X (e::es) (K7 t u):=by
 intro pins s σ H vs us Q I r h
 obtain ⟨v,vr,e1,h⟩:=h
 subst e1
 cases r with
 | cons r rr=>
  rw [hs]
  refine assignInOrder_cons (cU (h1 pins s σ H _ _ _ I r h) fun _ s1 aV=>?_)
  obtain ⟨σ1,H1,I1,q1⟩:=aV
  exact h2 pins s1 σ1 H1 _ _ Q I1 rr q1
noncomputable def Um (K:PySem.W.Frag) (n:Nat) (t:K6):TG:=fun v σ H Q=>∃a xs,v=.ref a∧eX K H a xs∧xs.length=n∧t xs σ H Q
theorem Dw {es:List Expr} {k:Nat} {t:K6} {n:Nat} (hc:X.calm=true) (h:YS X es t)
  (hn:(assignEach es X.env).length=n:=by rfl) (hst:(assignEach es X.env).findIdx? (·.1)=none:=by rfl):PG X (.Tuple es k pos) (Um X.K n t):=by
 intro pins s σ H v u Q I r hw
 obtain ⟨a,xs,e1,hq,hl,hw⟩:=hw
 subst e1
 cases r
 obtain ⟨its,rv,ht,hz⟩:=I.tuple hq
 refine assign_Tuple_tuple (I.ok.hd hc) ht (by simp [hn,←hl,rv.length]) hst fun h' hx=>?_
 have I1:Inv X pins σ H { s with heap:=h' }:=I.kept (t':=s.toks) fun b o e=>hx b o (Nat.ne_of_lt (Heap.lt_size e)) e
 exact h pins _ σ H xs _ Q I1 (by simpa using rv) hw
noncomputable def ZD (to ti:TE) (t:Qd):TG:=fun v σ H Q=>to σ H fun o H1=>ti σ H1 fun i H2=>t o i v H2 fun H3=>Q σ H3
theorem Uo {o i:Expr} {to ti:TE} {t:Qd} (ho:PE X o to) (hi:PE X i ti) (hs:yR X t)
  (ha:∀v,assign (.Subscript o i pos) X.env v=(do
   let ov ←holding [v] (eval o X.env)
   let iv ←holding [v,ov] (eval i X.env)
   standAt pos
   holding [v,ov,iv] (setItem ov iv v)
   release [v,ov,iv] []):=by intro _; rfl):PG X (.Subscript o i pos) (ZD to ti t):=by
 intro pins s σ H v u Q I r h
 rw [ha]
 refine wpAny_bind (wpAny_holding (cU (ho pins s σ H _ I h) fun ov s1 aV=>?_))
 obtain ⟨x,H1,I1,r1,q1⟩:=aV
 refine wpAny_bind (wpAny_holding (cU (hi pins s1 σ H1 _ I1 q1) fun iv s2 aV=>?_))
 obtain ⟨y,H2,I2,r2,q2⟩:=aV
 refine wpAny_bind (wpAny_standAt (wpAny_bind (wpAny_holding (cU (hs pins s2 σ H2 x y v ov iv u _ I2 r1 r2 r q2) fun _ s3 aV=>?_))))
 obtain ⟨H3,I3,q3⟩:=aV
 exact wpAny_release ⟨σ,H3,I3,q3⟩
noncomputable def Jm (te:TE) (g:TG):TS:=fun D σ H=>te σ H fun x H1=>g x σ H1 D.nx
theorem Dy {tg e:Expr} {te:TE} {g:TG} (he:PE X e te) (hg:PG X tg g) (hs:swapsWithSole [tg] e pos.line X.env=pure false:=by rfl) (hw:swappedStores [tg] e X.env=pure none:=by rfl)
  (h1:(assignEach [tg] X.env).map (·.2)=[assign tg X.env]:=by rfl):PS X (.Assign [tg] e pos) (Jm te g):=by
 intro pins s σ H D I h
 refine wpAny_Assign_stores (cU (he pins s σ H _ I h) fun v s1 aV=>?_) hs hw
 obtain ⟨x,H1,I1,r1,q1⟩:=aV
 rw [h1]
 exact cU (hg pins s1 σ H1 x v _ I1 r1 q1) fun _ s2 q=>q
theorem K8 {i:Nat} {x:Str} {e:Expr} {te:TE} {pos':Pos} (hN:X.N.Nodup) (hi:X.N[i]?=some x) (hx:Loc X.env.scope x) (he:PE X e te) (hs:swapsWith e (some (.Name x pos')) pos.line X.env=pure false:=by rfl) (hf:X.fn x=true∨X.env.scope.names.lookup x=some .local:=by first | exact .inl rfl | exact .inr rfl | assumption):
  PS X (.Assign [.Name x pos'] e pos) (Jm te (sU i)):=by
 intro pins s σ H D I h
 refine wpAny_Assign_Name (cU (he pins s σ H _ I h) fun v s1 aV=>?_) hs
 obtain ⟨y,H1,I1,r1,q1⟩:=aV
 exact jP I1 hN hi hx r1 (fun s2 I2=>⟨_,H1,I2,q1⟩) hf
noncomputable def ZF (i j:Nat) (ta:TA):TS:=fun D σ H=>ta σ H fun vs H1=>∃v w,vs=[v,w]∧D.nx ((σ.set i (some v)).set j (some w)) H1
theorem Up {i j:Nat} {x y:Str} {a b:Expr} {ta:TA} {px py pt:Pos} {kt k2 Uq} (hc:X.calm=true) (hN:X.N.Nodup) (hi:X.N[i]?=some x) (hj:X.N[j]?=some y) (hij:i≠j)
  (hx:X.env.scope.names.lookup x=some .local) (hy:X.env.scope.names.lookup y=some .local) (ha:PA X [a,b] ta)
  (hw:swappedStores [.Tuple [.Name x px,.Name y py] kt pt] (.Tuple [a,b] k2 Uq) X.env=pure (some [x,y]))
  (hs:swapsWithSole [.Tuple [.Name x px,.Name y py] kt pt] (.Tuple [a,b] k2 Uq) pos.line X.env=pure false:=by rfl):
  PS X (.Assign [.Tuple [.Name x px,.Name y py] kt pt] (.Tuple [a,b] k2 Uq) pos) (ZF i j ta):=by
 intro pins s σ H D I h
 rw [exec_Assign_arm]
 refine wpAny_bind (wpAny_standAt ?_)
 rw [hs]
 refine wpAny_bind (wpAny_pure ?_)
 rw [if_neg (by decide)]
 refine wpAny_bind (Tuple_ (cU (ha _ pins s σ H _ I h) fun us s1 aV=>?_))
 obtain ⟨vs,H1,I1,r1,q1⟩:=aV
 obtain ⟨v,w,e1,q1⟩:=q1
 subst e1
 obtain ⟨u1,u2,rfl,rv,rw'⟩:∃u1 u2,us=[u1,u2]∧RelV v u1∧RelV w u2:=by
  cases r1 with
  | cons p q=>
   cases q with
   | cons p' q'=>
    cases q'
    exact ⟨_,_,rfl,p,p'⟩
 refine wpAny_newObj_type ?_ (by show 2≤sizeLine; decide)
 have I2:Inv X pins σ H1 { s1 with heap:=s1.heap.push { cls:=.type "tuple",data:=.seq [u1,u2].toArray } }:=I1.kept (t':=s1.toks) fun b o e=>Heap.get?_push_of_some _ e
 rw [hw]
 refine wpAny_bind (wpAny_pure ?_)
 show wpAny (model X.prog X.w) X.A (do rule "assign.swapped-stores"; let items ←unpackItems (.ref s1.heap.objs.size) 2 none; assignInOrder [fun v=>bindName X.env y v,fun v=>bindName X.env x v] items.reverse; pure Flow.next) _ _ _
 refine wpAny_bind (wpAny_rule (wpAny_bind (unpackItems_tuple (items:=#[u1,u2]) (I.ok.hd hc) (IsTup.new s1.heap _) fun h' hx'=>?_)))
 have I3:=I2.kept (h':=h') (t':=s1.toks) fun b o e=>hx' b o (Nat.ne_of_lt (Heap.lt_size e)) e
 show wpAny _ _ (assignInOrder [fun v=>bindName X.env y v,fun v=>bindName X.env x v] [u2,u1] >>= fun _=>pure Flow.next) _ _ _
 refine wpAny_bind (assignInOrder_cons (wpAny_bindName (jP I3 hN hj (.inl hy) rw' (fun s2 I4=>?_) (.inr hy))))
 refine assignInOrder_cons (wpAny_bindName (jP I4 hN hi (.inl hx) rv (fun s3 I5=>assignInOrder_nil (wpAny_pure ?_)) (.inr hx)))
 rw [List.set_comm _ _ (Ne.symm hij)] at I5
 exact ⟨_,H1,I5,q1⟩
end
section
variable {X:Cx} {pos:Pos}
noncomputable def K9 (c:TT) (tb:TS):TS:=fun D σ H=>∃W:Nat→St→Hp→Prop,(∃m,W m σ H)∧∀m σ H,W m σ H→
 c σ H fun b H1=>if b=true then ∃N:St→Hp→Prop,(∀σ' H',N σ' H'→∃m',m' < m∧W m' σ' H')∧tb { D with nx:=N,ct:=N,bk:=D.nx } σ H1 else D.nx σ H1
theorem La {c:Expr} {body:List Stmt} {tc:TT} {tb:TS} (hp:PassesOwn (model X.prog X.w) X.A X.env X.xe) (hc:PT X c tc) (hb:tX X body tb):PS X (.While c body [] pos) (K9 tc tb):=by
 intro pins s σ H D I h
 obtain ⟨W,⟨m0,w0⟩,turn⟩:=h
 refine wpAny_While (codeAny_whileLoop (fun n s'=>∃σ' H',Inv X pins σ' H' s'∧W n σ' H') ?_ m0 ⟨σ,H,I,w0⟩)
 rintro n s1 ⟨σ1,H1,I1,w1⟩
 refine wpAny_passesOwn hp (cU (hc pins s1 σ1 H1 _ I1 (turn n σ1 H1 w1)) fun b s2 aV=>?_)
 obtain ⟨H2,I2,q2⟩:=aV
 cases b with
 | true=>
  obtain ⟨N,hN,q2⟩:=q2
  rw [if_pos rfl]
  refine wpAny_passesOwn hp (cU (hb pins s2 σ1 H2 _ I2 q2) fun f s3 q3=>?_)
  cases f with
  | next=>
   obtain ⟨σ3,H3,I3,n3⟩:=q3
   obtain ⟨m',hm,w3⟩:=hN σ3 H3 n3
   exact ⟨m',hm,σ3,H3,I3,w3⟩
  | cont=>
   obtain ⟨σ3,H3,I3,n3⟩:=q3
   obtain ⟨m',hm,w3⟩:=hN σ3 H3 n3
   exact ⟨m',hm,σ3,H3,I3,w3⟩
  | brk=>exact q3
  | ret v=>exact q3
 | false=>
  rw [if_neg Bool.false_ne_true]
  exact wpAny_execs_nil ⟨σ1,H2,I2,q2⟩
end
structure It where
 go:Nat→Hp→Prop
 Sv:Nat→Hp→V→Hp→Prop
 stop:Nat→Hp→Prop
noncomputable def iC (X:Cx) (pins:List (Addr×Obj)) (H:Hp) (b:Addr):Prop:=
 H b=none∧b≠X.env.locals∧b∉X.fs∧(b∈X.ex∨X.s₀.heap.objs.size≤b)∧(∀x c,X.env.cells.lookup x=some c→c≠b)∧∀p∈X.pn++pins,p.1≠b
theorem Inv.yU {X:Cx} {pins:List (Addr×Obj)} {σ:St} {H H':Hp} {s:Shared} {b:Addr} (I:Inv X pins σ H s) (hb:s.heap.objs.size≤b) (hn:H' b=none):iC X pins H' b:=by
 refine ⟨hn,Nat.ne_of_gt (Nat.lt_of_lt_of_le I.lt hb),I.Zv hb,.inr (Nat.le_trans I.sz hb),fun x c e z=>?_,fun p hp z=>?_⟩
 ·obtain ⟨v,q⟩:=I.cell x c e
  exact absurd (Nat.lt_of_lt_of_le q.lt (by rw [z]; exact hb)) (Nat.lt_irrefl _)
 ·exact absurd (Nat.lt_of_lt_of_le (Heap.lt_size (I.pin p hp).1) (by rw [z]; exact hb)) (Nat.lt_irrefl _)
structure Turn (P:Program) (w:World) (K:PySem.W.Frag) (tg:Expr) (J:It) (fp:List Addr) (it:Addr) (tn:Nat→Heap→Prop):Prop where
 mem:it∈fp
 obj:∀i h,tn i h→∀b∈fp,∃o,h.get? b=some o∧∀v,o.data≠.cell v
 keep:∀i h h',tn i h→(∀b∈fp,∀o,h.get? b=some o→h'.get? b=some o)→tn i h'
 item:∀(X:Cx),X.prog=P→X.w=w→X.K=K→X.calm=true→∀(i:Nat) (pins:List (Addr×Obj)) (s:Shared) (σ:St) (H:Hp) (E:Value→Shared→Prop),Inv X pins σ H s→(∀b∈fp,iC X pins H b)→tn i s.heap→J.go i H→
  wpAny (model P w) X.A (pyNext (.ref it)) (fun r s1=>∃u,r=some u∧
   wpAny (model P w) X.A (letOwnedTupleGo tg (.ref it) u) (fun _ s2=>∃x H',Inv X pins σ H' s2∧RelV x u∧J.Sv i H x H'∧tn (i + 1) s2.heap∧∀b∈fp,H' b=none) E s1) E s
 done:∀(X:Cx),X.prog=P→X.w=w→X.K=K→X.calm=true→∀(i:Nat) (pins:List (Addr×Obj)) (s:Shared) (σ:St) (H:Hp) (E:Value→Shared→Prop),Inv X pins σ H s→(∀b∈fp,iC X pins H b)→tn i s.heap→J.stop i H→
  wpAny (model P w) X.A (pyNext (.ref it)) (fun r s1=>r=none∧Inv X pins σ H s1) E s
 self:∀(A:Around) (i:Nat) (s:Shared) (Q:Value→Shared→Prop) (E:Value→Shared→Prop),tn i s.heap→Q (.ref it) s→wpAny (model P w) A (pyIter (.ref it)) Q E s
noncomputable abbrev TI:=St→Hp→(It→Hp→Prop)→Prop
noncomputable def PIE (X:Cx) (pins:List (Addr×Obj)) (σ:St) (tg:Expr) (R:It→Hp→Prop) (itv:Value) (s2:Shared):Prop:=
 ∃(it:Addr) (fp:List Addr) (tn:Nat→Heap→Prop) (J:It) (H':Hp),itv=.ref it∧Inv X pins σ H' s2∧Turn X.prog X.w X.K tg J fp it tn∧tn 0 s2.heap∧(∀b∈fp,iC X pins H' b)∧R J H'
noncomputable def PI (X:Cx) (tg iter:Expr) (wi:TI):Prop:=
 ∀(pins:List (Addr×Obj)) (s:Shared) (σ:St) (H:Hp) (R:It→Hp→Prop),Inv X pins σ H s→wi σ H R→
  wpAny (model X.prog X.w) X.A (eval iter X.env) (fun v s1=>wpAny (model X.prog X.w) X.A (pyIter v) (PIE X pins σ tg R) X.xe s1) X.xe s
theorem Lb {M:Model} {A:Around} {E:Value→Shared→Prop} {s:Shared} {tg:Expr} {it:Addr} {u:Value} {o:Obj} {n:String} {vs:Array Value} {Q:Unit→Shared→Prop} (ho:s.heap.get? it=some o) (hc:o.cls=.type n) (hd:o.data=.fields vs)
  (hn:["enumerate","zip","dict_itemiterator","dict_reverseitemiterator","odict_iterator","itertools.zip_longest","itertools.pairwise"].contains n=false) (hQ:Q () s):wpAny M A (letOwnedTupleGo tg (.ref it) u) Q E s:=by
 unfold letOwnedTupleGo
 cases tg <;> first
  | exact wpAny_pure hQ
  | (cases u <;> first
    | exact wpAny_pure hQ
    | (refine wpAny_bind (wpAny_load ho ?_)
       rw [hc,hd]
       show wpAny M A (if (["enumerate","zip","dict_itemiterator","dict_reverseitemiterator","odict_iterator","itertools.zip_longest","itertools.pairwise"].contains n&&vs[0]?==some (rawInt _))=true then _ else _) Q E s
       rw [if_neg (by intro h; rw [hn,Bool.false_and] at h; cases h)]
       exact wpAny_pure hQ))
noncomputable def ZG (K:PySem.W.Frag) (a:Addr):It:=
 ⟨fun i H=>∃xs x,cO K H a xs∧xs[i]?=some x,fun i H x H'=>H'=H∧∀xs,cO K H a xs→xs[i]?=some x,fun i H=>∃xs,cO K H a xs∧xs.length≤i⟩
noncomputable def ZJ (K:PySem.W.Frag) (a:Addr):It:=
 ⟨fun i H=>∃xs x,eX K H a xs∧xs[i]?=some x,fun i H x H'=>H'=H∧∀xs,eX K H a xs→xs[i]?=some x,fun i H=>∃xs,eX K H a xs∧xs.length≤i⟩
noncomputable def YT (lo:Int) (n:Nat):It:=⟨fun i _=>i < n,fun i H x H'=>H'=H∧x=.int (lo + i),fun i _=>n≤i⟩
theorem Jo {P:Program} {w:World} {K:PySem.W.Frag} {tg:Expr} (a it:Addr):Turn P w K tg (ZG K a) [it] it (fun i h=>h.IsListIter it a i) where
 mem:=by simp
 obj:=fun i h st b hb=>by
  have e:b=it:=by simpa using hb
  subst e
  obtain ⟨o,e,c,d⟩:=st
  exact ⟨o,e,fun v z=>by rw [d] at z; cases z⟩
 keep:=fun i h h' st k=>st.at fun o e=>k it (by simp) o e
 item:=by
  intro X hP hw hK hc i pins s σ H E I hf st hg
  subst hP hw hK
  obtain ⟨xs,x,hq,hx⟩:=hg
  obtain ⟨its,rv,p,hz⟩:=I.list hq
  obtain ⟨u,hu,ru⟩:=rv.get hx
  obtain ⟨f0,f1,f2,f3,f4,f5⟩:=hf it (by simp)
  refine wpAny_pyNext_list_item st p.isList (x:=u) (by simpa using hu) fun h' st' sb=>?_
  have I1:Inv X pins σ H { s with heap:=h' }:=I.turned (t':=s.toks) (fun b o hb e=>(sb.2 b hb).trans e) f0 f1 f3 f4 f5
  obtain ⟨o,e,c,d⟩:=id st'
  exact ⟨u,rfl,Lb (s:={ s with heap:=h' }) e c d (by decide) ⟨x,H,I1,ru,⟨rfl,fun ys hy=>by rw [I.uw hy hq]; exact hx⟩,st',fun b hb=>(hf b hb).1⟩⟩
 done:=by
  intro X hP hw hK hc i pins s σ H E I hf st hg
  subst hP hw hK
  obtain ⟨xs,hq,hx⟩:=hg
  obtain ⟨its,rv,p,hz⟩:=I.list hq
  obtain ⟨f0,f1,f2,f3,f4,f5⟩:=hf it (by simp)
  have hl:=rv.length
  exact wpAny_pyNext_list_end (I.ok.hd hc) st p.isList (by simp; omega) fun h' eb=>⟨rfl,I.turned (t':=s.toks) (fun b o hb e=>eb b o hb e) f0 f1 f3 f4 f5⟩
 self:=fun _ _ _ _ _ st h=>wpAny_pyIter_listiter st h
theorem Dz {P:Program} {w:World} {K:PySem.W.Frag} {tg:Expr} (a it:Addr):Turn P w K tg (ZJ K a) [it] it (fun i h=>h.IsTupleIter it a i) where
 mem:=by simp
 obj:=fun i h st b hb=>by
  have e:b=it:=by simpa using hb
  subst e
  obtain ⟨o,e,c,d⟩:=st
  exact ⟨o,e,fun v z=>by rw [d] at z; cases z⟩
 keep:=fun i h h' st k=>st.at fun o e=>k it (by simp) o e
 item:=by
  intro X hP hw hK hc i pins s σ H E I hf st hg
  subst hP hw hK
  obtain ⟨xs,x,hq,hx⟩:=hg
  obtain ⟨its,rv,p,hz⟩:=I.tuple hq
  obtain ⟨u,hu,ru⟩:=rv.get hx
  obtain ⟨f0,f1,f2,f3,f4,f5⟩:=hf it (by simp)
  refine wpAny_pyNext_tuple_item st (show s.heap.IsTuple a its.toArray from p) (x:=u) (by simpa using hu) fun h' st' sb=>?_
  have I1:Inv X pins σ H { s with heap:=h' }:=I.turned (t':=s.toks) (fun b o hb e=>(sb.2 b hb).trans e) f0 f1 f3 f4 f5
  obtain ⟨o,e,c,d⟩:=id st'
  exact ⟨u,rfl,Lb (s:={ s with heap:=h' }) e c d (by decide) ⟨x,H,I1,ru,⟨rfl,fun ys hy=>by rw [I.qX hy hq]; exact hx⟩,st',fun b hb=>(hf b hb).1⟩⟩
 done:=by
  intro X hP hw hK hc i pins s σ H E I hf st hg
  subst hP hw hK
  obtain ⟨xs,hq,hx⟩:=hg
  obtain ⟨its,rv,p,hz⟩:=I.tuple hq
  obtain ⟨f0,f1,f2,f3,f4,f5⟩:=hf it (by simp)
  have hl:=rv.length
  exact wpAny_pyNext_tuple_end (I.ok.hd hc) st (show s.heap.IsTuple a its.toArray from p) (by simp; omega) fun h' eb=>⟨rfl,I.turned (t':=s.toks) (fun b o hb e=>eb b o hb e) f0 f1 f3 f4 f5⟩
 self:=fun _ _ _ _ _ st h=>wpAny_pyIter_tupleiter st h
theorem DG {P:Program} {w:World} {K:PySem.W.Frag} {tg:Expr} (it:Addr) (lo:Int) (n:Nat):Turn P w K tg (YT lo n) [it] it (fun i h=>IsRangeIter h it (lo + (i:Nat) * 1) ((n:Int) - (i:Nat)) 1) where
 mem:=by simp
 obj:=fun i h st b hb=>by
  have e:b=it:=by simpa using hb
  subst e
  exact ⟨_,st,fun v z=>by
   have z':Data.fields _=Data.cell v:=z
   cases z'⟩
 keep:=fun i h h' st k=>k it (by simp) _ st
 item:=by
  intro X hP hw hK hc i pins s σ H E I hf st hg
  subst hP hw hK
  obtain ⟨f0,f1,f2,f3,f4,f5⟩:=hf it (by simp)
  have W:=Walks.range (prog:=X.prog) (w:=X.w) (I.ok.hd hc) it lo 1 n
  refine W.item i s _ _ hg st fun v h' tk hv st' kk=>?_
  obtain ⟨t,rfl⟩:=hv
  have I1:Inv X pins σ H { s with heap:=h',toks:=tk }:=I.turned (fun b o hb e=>kk b o (by simpa using hb) e) f0 f1 f3 f4 f5
  refine ⟨_,rfl,Lb (s:={ s with heap:=h',toks:=tk }) (n:="range_iterator") st' rfl rfl (by decide) ⟨.int (lo + i),H,I1,⟨t,?_⟩,⟨rfl,rfl⟩,st',fun b hb=>(hf b hb).1⟩⟩
  rw [Int.mul_one]
 done:=by
  intro X hP hw hK hc i pins s σ H E I hf st hg
  subst hP hw hK
  obtain ⟨f0,f1,f2,f3,f4,f5⟩:=hf it (by simp)
  exact wpAny_pyNext_range_end (I.ok.hd hc) st (by have:n≤i:=hg; omega) fun h' eb=>⟨rfl,I.turned (t':=s.toks) (fun b o hb e=>eb b o hb e) f0 f1 f3 f4 f5⟩
 self:=fun _ _ _ _ _ st h=>wpAny_pyIter_rangeiter st h
end L2
namespace L2
open PySem PySem.Spec PyProof.Rows
section
variable {X:Cx} {tg:Expr}
noncomputable def WX (K:PySem.W.Frag) (tl:TE):TI:=fun σ H R=>tl σ H fun x H1=>∃a,x=.ref a∧(∃xs,cO K H1 a xs)∧R (ZG K a) H1
noncomputable def ZK (K:PySem.W.Frag) (tl:TE):TI:=fun σ H R=>tl σ H fun x H1=>∃a,x=.ref a∧(∃xs,eX K H1 a xs)∧R (ZJ K a) H1
theorem yV {l:Expr} {tl:TE} (hl:PE X l tl):PI X tg l (WX X.K tl):=by
 intro pins s σ H R I h
 refine cU (hl pins s σ H _ I h) fun v s1 aV=>?_
 obtain ⟨x,H1,I1,r1,q1⟩:=aV
 obtain ⟨a,e,⟨xs,hq⟩,q⟩:=q1
 subst e
 cases r1
 obtain ⟨its,rv,p,hz⟩:=I1.list hq
 refine wpAny_pyIter_list p.isList ?_
 refine ⟨s1.heap.objs.size,[s1.heap.objs.size],_,_,H1,rfl,I1.kept (t':=s1.toks) fun b o e=>Heap.get?_push_of_some _ e,Jo a _,⟨_,Heap.get?_push_size _ rfl,rfl,rfl⟩,fun b hb=>?_,q⟩
 have e:b=s1.heap.objs.size:=by simpa using hb
 subst e
 exact I1.yU (Nat.le_refl _) (I1.hok.fresh (Nat.le_refl _))
theorem DK {l:Expr} {tl:TE} (hl:PE X l tl):PI X tg l (ZK X.K tl):=by
 intro pins s σ H R I h
 refine cU (hl pins s σ H _ I h) fun v s1 aV=>?_
 obtain ⟨x,H1,I1,r1,q1⟩:=aV
 obtain ⟨a,e,⟨xs,hq⟩,q⟩:=q1
 subst e
 cases r1
 obtain ⟨its,rv,p,hz⟩:=I1.tuple hq
 refine wpAny_pyIter_tuple (show s1.heap.IsTuple a its.toArray from p) ?_
 refine ⟨s1.heap.objs.size,[s1.heap.objs.size],_,_,H1,rfl,I1.kept (t':=s1.toks) fun b o e=>Heap.get?_push_of_some _ e,Dz a _,⟨_,Heap.get?_push_size _ rfl,rfl,rfl⟩,fun b hb=>?_,q⟩
 have e:b=s1.heap.objs.size:=by simpa using hb
 subst e
 exact I1.yU (Nat.le_refl _) (I1.hok.fresh (Nat.le_refl _))
theorem Ld {pins:List (Addr×Obj)} {σ:St} {H:Hp} {s:Shared} {R:It→Hp→Prop} {E:Value→Shared→Prop} {lo hi:Int} {t u v:Tok} {tk:Nat} (I:Inv X pins σ H s) (h1:-(2 ^ 62)≤lo) (h2:lo < 2 ^ 62) (h3:-(2 ^ 62)≤hi) (h4:hi < 2 ^ 62)
  (q:R (YT lo (hi - lo).toNat) H):wpAny (model X.prog X.w) X.A (pyIter (.ref s.heap.objs.size)) (PIE X pins σ tg R) E { s with heap:=s.heap.push { cls:=.type "range",data:=.fields #[.int lo t,.int hi u,.int 1 v] },toks:=tk }:=by
 refine wpAny_pyIter_range (IsRange.new ..) (small_one h1 h2 h3 h4) ?_
 have I1:Inv X pins σ H { s with heap:=s.heap.push { cls:=.type "range",data:=.fields #[.int lo t,.int hi u,.int 1 v] },toks:=tk }:=I.kept fun b o e=>Heap.get?_push_of_some _ e
 refine ⟨(s.heap.push { cls:=.type "range",data:=.fields #[.int lo t,.int hi u,.int 1 v] }).objs.size,[(s.heap.push { cls:=.type "range",data:=.fields #[.int lo t,.int hi u,.int 1 v] }).objs.size],_,_,H,rfl,
  I1.kept (t':=tk) fun b o e=>Heap.get?_push_of_some _ e,DG _ lo (hi - lo).toNat,?_,fun b hb=>?_,q⟩
 ·have e1:lo + ((0:Nat):Int) * 1=lo:=by simp
  have e2:(((hi - lo).toNat:Nat):Int) - ((0:Nat):Int)=Builtin.Range.rangeSize lo hi 1:=by rw [rangeSize_one]; split <;> omega
  show IsRangeIter _ _ (lo + ((0:Nat):Int) * 1) ((((hi - lo).toNat:Nat):Int) - ((0:Nat):Int)) 1
  rw [e1,e2]
  exact Heap.get?_push_size _ rfl
 ·have e:b=(s.heap.push { cls:=.type "range",data:=.fields #[.int lo t,.int hi u,.int 1 v] }).objs.size:=by simpa using hb
  subst e
  exact I1.yU (Nat.le_refl _) (I1.hok.fresh (Nat.le_refl _))
noncomputable def WY (ta:TA):TI:=fun σ H R=>ta σ H fun vs H1=>∃j:Int,vs=[.int j]∧-(2 ^ 62)≤j∧j < 2 ^ 62∧R (YT 0 j.toNat) H1
theorem Jp {a:Expr} {ta:TA} {p pos:Pos} (hg:Gl X "range") (hm:X.mg "range"=none) (ha:PA X [a] ta) (hs:starEach [a] X.env=[(false,eval a X.env)]:=by rfl):PI X tg (.Call (.Name "range" p) [a] [] pos) (WY ta):=by
 intro pins s σ H R I h
 refine Call_ (jy I hg hm boot_range (PyProof.Rows.callWith_type1 (cU (ha pos pins s σ H _ I h) fun us s1 aV=>?_) hs rfl))
 obtain ⟨vs,H1,I1,r1,q1⟩:=aV
 obtain ⟨j,e,q1,q2,q⟩:=q1
 subst e
 cases r1 with
 | cons r rr=>
  cases rr
  obtain ⟨t,rfl⟩:=r
  exact call_range_1 (Ld I1 (by omega) (by omega) q1 q2 (by simpa using q))
noncomputable def W0 (wi:TI) (g:TG) (tb:TS):TS:=fun D σ H=>wi σ H fun J H1=>∃W:Nat→Nat→St→Hp→Prop,(∃m,W 0 m σ H1)∧∀i m σ H,W i m σ H→
 (J.stop i H∧D.nx σ H)∨(J.go i H∧∃N:St→Hp→Prop,(∀σ' H',N σ' H'→∃m',m' < m∧W (i + 1) m' σ' H')∧∀x H',J.Sv i H x H'→g x σ H' fun σ2 H2=>tb { D with nx:=N,ct:=N,bk:=D.nx } σ2 H2)
noncomputable def ux (fp:List Addr) (h:Heap):List (Addr×Obj):=fp.filterMap fun b=>(h.get? b).map fun o=>(b,o)
theorem j4 {fp:List Addr} {h:Heap} {b:Addr} {o:Obj} (hb:b∈fp) (e:h.get? b=some o):(b,o)∈ux fp h:=List.mem_filterMap.mpr ⟨b,hb,by rw [e]; rfl⟩
theorem Jq {fp:List Addr} {h:Heap} {p:Addr×Obj} (hp:p∈ux fp h):p.1∈fp∧h.get? p.1=some p.2:=by
 obtain ⟨b,hb,e⟩:=List.mem_filterMap.mp hp
 cases q:h.get? b with
 | none=>rw [q] at e; cases e
 | some o=>
  rw [q] at e
  have e':(b,o)=p:=Option.some.inj e
  subst e'
  exact ⟨hb,q⟩
theorem Inv.pinned {pins:List (Addr×Obj)} {σ:St} {H:Hp} {s:Shared} {fp:List Addr} (I:Inv X pins σ H s) (hf:∀b∈fp,iC X pins H b) (ho:∀b∈fp,∃o,s.heap.get? b=some o∧∀v,o.data≠.cell v):Inv X (pins++ux fp s.heap) σ H s:=
 I.GF fun p hp=>(List.mem_append.mp hp).elim (fun z=>I.pin p (List.mem_append_right _ z)) fun z=>by
  obtain ⟨hb,e⟩:=Jq z
  obtain ⟨f0,f1,f2,_⟩:=hf p.1 hb
  obtain ⟨o,e',d⟩:=ho p.1 hb
  rw [e] at e'; cases e'
  exact ⟨e,f0,f1,f2,d⟩
theorem Inv.pP {pins pl:List (Addr×Obj)} {σ:St} {H:Hp} {s:Shared} (I:Inv X (pins++pl) σ H s):Inv X pins σ H s:=I.GF fun p hp=>I.pin p (List.mem_append_right _ (List.mem_append_left _ hp))
theorem Ur {iter:Expr} {body:List Stmt} {wi:TI} {g:TG} {tb:TS} {pos:Pos} (hp:PassesOwn (model X.prog X.w) X.A X.env X.xe) (hc:X.calm=true) (hi:PI X tg iter wi) (hg:PG X tg g) (hb:tX X body tb)
  (hs:∀x,foldedSetIterable iter X.env x=pure x:=by intro _; rfl):PS X (.For tg iter body [] pos) (W0 wi g tb):=by
 intro pins s σ H D I h
 refine wpAny_For (cU (hi pins s σ H _ I h) fun v s1 h1=>cU h1 fun itv s2 h2=>?_) hs
 obtain ⟨it,fp,tn,J,H2,e,I2,T,st2,f2,W,⟨m0,w0⟩,turn⟩:=h2
 subst e
 have stat:∀{H':Hp},(∀b∈fp,H' b=none)→∀b∈fp,iC X pins H' b:=fun hn b hb=>⟨hn b hb,(f2 b hb).2⟩
 refine codeAny_forLoop_any (fun n s'=>∃i σ' H',Inv X pins σ' H' s'∧tn i s'.heap∧(∀b∈fp,H' b=none)∧W i n σ' H') ?_ m0 ⟨0,σ,H2,I2,st2,fun b hb=>(f2 b hb).1,w0⟩
 rintro n s3 ⟨i,σ3,H3,I3,st3,W2,w3⟩
 rcases turn i n σ3 H3 w3 with ⟨stop,qn⟩ | ⟨go,N,hN,step⟩
 ·refine wpAny_passesOwn hp (cU (T.done X rfl rfl rfl hc i pins s3 σ3 H3 X.xe I3 (stat W2) st3 stop) fun r s4 aV=>?_)
  obtain ⟨hr,I4⟩:=aV
  subst hr
  exact wpAny_execs_nil ⟨σ3,H3,I4,qn⟩
 ·refine wpAny_passesOwn hp (cU (T.item X rfl rfl rfl hc i pins s3 σ3 H3 X.xe I3 (stat W2) st3 go) fun r s4 aV=>?_)
  obtain ⟨u,hr,h4⟩:=aV
  subst hr
  refine wpAny_passesOwn hp (cU h4 fun _ s5 aV=>?_)
  obtain ⟨x,H5,I5,r5,y5,Us,ZL⟩:=aV
  have ZM:=I5.pinned (stat ZL) (T.obj _ _ Us)
  refine wpAny_passesOwn hp (cU (hg _ s5 σ3 H5 x u _ ZM r5 (step x H5 y5)) fun _ s6 aV=>?_)
  obtain ⟨σ6,H6,I6,q6⟩:=aV
  refine wpAny_passesOwn hp (cU (hb _ s6 σ6 H6 _ I6 q6) fun f s7 q7=>?_)
  have again:∀{σ7:St} {H7:Hp},Inv X (pins++ux fp s5.heap) σ7 H7 s7→N σ7 H7→∃m,m < n∧∃i σ' H',Inv X pins σ' H' s7∧tn i s7.heap∧(∀b∈fp,H' b=none)∧W i m σ' H':=fun {σ7 H7} I7 n7=>by
   obtain ⟨m',hm,w7⟩:=hN σ7 H7 n7
   refine ⟨m',hm,i + 1,σ7,H7,I7.pP,T.keep _ _ _ Us fun b hb o e=>(I7.pin (b,o) (List.mem_append_right _ (List.mem_append_right _ (j4 hb e)))).1,fun b hb=>?_,w7⟩
   obtain ⟨o,e,d⟩:=T.obj _ _ Us b hb
   exact (I7.pin (b,o) (List.mem_append_right _ (List.mem_append_right _ (j4 hb e)))).2.1
  cases f with
  | next=>obtain ⟨σ7,H7,I7,n7⟩:=q7; exact again I7 n7
  | cont=>obtain ⟨σ7,H7,I7,n7⟩:=q7; exact again I7 n7
  | brk=>obtain ⟨σ7,H7,I7,q7⟩:=q7; exact ⟨σ7,H7,I7.pP,q7⟩
  | ret v=>obtain ⟨x7,σ7,H7,I7,r7,q7⟩:=q7; exact ⟨x7,σ7,H7,I7.pP,r7,q7⟩
end
end L2
namespace L2
open PySem PySem.Spec PyProof.Rows
noncomputable abbrev R2:=V→V→Hp→VK→Prop
noncomputable def gW (X:Cx) (f:Value→Value→Sem Value) (r:R2):Prop:=
 ∀(pins:List (Addr×Obj)) (s:Shared) (σ:St) (H:Hp) (x y:V) (v u:Value) (Q:VK),Inv X pins σ H s→RelV x v→RelV y u→r x y H Q→
  wpAny (model X.prog X.w) X.A (f v u) (EP X pins σ Q) X.xe s
noncomputable def cD (X:Cx) (f:Value) (r:List V→Hp→VK→Prop):Prop:=
 ∀(pins:List (Addr×Obj)) (s:Shared) (σ:St) (H:Hp) (xs:List V) (us:List Value) (Q:VK),Inv X pins σ H s→Vals xs us→r xs H Q→
  wpAny (model X.prog X.w) X.A (call f us) (EP X pins σ Q) X.xe s
noncomputable def ZP (X:Cx) (r:V→Hp→(Bool→Hp→Prop)→Prop):Prop:=
 ∀(pins:List (Addr×Obj)) (s:Shared) (σ:St) (H:Hp) (x:V) (v:Value) (Q:Bool→Hp→Prop),Inv X pins σ H s→RelV x v→r x H Q→
  wpAny (model X.prog X.w) X.A (truthy v) (TP X pins σ Q) X.xe s
noncomputable def W3 (r:R2) (ta tb:TE):TE:=fun σ H Q=>ta σ H fun x H1=>tb σ H1 fun y H2=>r x y H2 Q
noncomputable def rI (C:Int→Int→Prop) (g:Int→Int→V):R2:=fun x y H Q=>∃i j,x=.int i∧y=.int j∧C i j∧Q (g i j) H
noncomputable def Jr (g:Int→Int→V):R2:=fun x y H Q=>∃i j,x=.int i∧y=.int j∧Q (g i j) H
section
variable {X:Cx} {a b c:Expr} {ta tb tc:TE} {pos:Pos}
theorem Ut (ha:PE X a ta) (hb:PE X b tb) {pins:List (Addr×Obj)} {s:Shared} {σ:St} {H:Hp} {R:V→V→Hp→Prop} (I:Inv X pins σ H s)
  (h:ta σ H fun x H1=>tb σ H1 fun y H2=>R x y H2) {Q:Value→Shared→Prop} {f:Value→Value→Sem Value}
  (hf:∀v u s2 x y H2,Inv X pins σ H2 s2→RelV x v→RelV y u→R x y H2→wpAny (model X.prog X.w) X.A (f v u) Q X.xe s2):
  wpAny (model X.prog X.w) X.A (eval a X.env) (fun v s₁=>wpAny (model X.prog X.w) X.A (eval b X.env) (fun u s₂=>wpAny (model X.prog X.w) X.A (f v u) Q X.xe s₂) X.xe s₁) X.xe s:=by
 refine cU (ha pins s σ H _ I h) fun v s1 aV=>?_
 obtain ⟨x,H1,I1,r1,q1⟩:=aV
 refine cU (hb pins s1 σ H1 _ I1 q1) fun u s2 aV=>?_
 obtain ⟨y,H2,I2,r2,q2⟩:=aV
 exact hf v u s2 x y H2 I2 r1 r2 q2
theorem W4 {op:Operator} {r:R2} (ho:gW X (binaryOp op) r) (ha:PE X a ta) (hb:PE X b tb):PE X (.BinOp a op b pos) (W3 r ta tb):=by
 intro pins s σ H Q I h
 exact wpAny_BinOp (Ut ha hb I h fun v u s2 x y H2 I2 rx ry q=>ho pins s2 σ H2 x y v u Q I2 rx ry q)
theorem YW {f:Value→Value→Sem Value} {C:Int→Int→Prop} {g:Int→Int→Int}
  (rule:∀(i j:Int) (t u:Tok) (s:Shared) (Q:Value→Shared→Prop) (E:Value→Shared→Prop),C i j→Q (.int (g i j) s.toks) { s with toks:=s.toks + 1 }→wpAny (model X.prog X.w) X.A (f (.int i t) (.int j u)) Q E s):
  gW X f (rI C fun i j=>.int (g i j)):=by
 intro pins s σ H x y v u Q I rx ry h
 obtain ⟨i,j,rfl,rfl,hc,q⟩:=h
 obtain ⟨t,rfl⟩:=rx
 obtain ⟨t',rfl⟩:=ry
 exact rule i j t t' s _ _ hc ⟨.int (g i j),H,I.tok _,⟨_,rfl⟩,q⟩
theorem W5 {f:Value→Value→Sem Value} {g:Int→Int→Int}
  (rule:∀(i j:Int) (t u:Tok) (s:Shared) (Q:Value→Shared→Prop) (E:Value→Shared→Prop),Q (.int (g i j) s.toks) { s with toks:=s.toks + 1 }→wpAny (model X.prog X.w) X.A (f (.int i t) (.int j u)) Q E s):
  gW X f (Jr fun i j=>.int (g i j)):=by
 intro pins s σ H x y v u Q I rx ry h
 obtain ⟨i,j,rfl,rfl,q⟩:=h
 obtain ⟨t,rfl⟩:=rx
 obtain ⟨t',rfl⟩:=ry
 exact rule i j t t' s _ _ ⟨.int (g i j),H,I.tok _,⟨_,rfl⟩,q⟩
theorem Uu {f:Value→Value→Sem Value} {g:Int→Int→Bool}
  (rule:∀(i j:Int) (t u:Tok) (s:Shared) (Q:Value→Shared→Prop) (E:Value→Shared→Prop),Q (.bool (g i j)) s→wpAny (model X.prog X.w) X.A (f (.int i t) (.int j u)) Q E s):
  gW X f (Jr fun i j=>.bl (g i j)):=by
 intro pins s σ H x y v u Q I rx ry h
 obtain ⟨i,j,rfl,rfl,q⟩:=h
 obtain ⟨t,rfl⟩:=rx
 obtain ⟨t',rfl⟩:=ry
 exact rule i j t t' s _ _ ⟨.bl (g i j),H,I,rfl,q⟩
noncomputable def W6 (i j:Int):Prop:=0 < j∧j < 1073741824
noncomputable def W7 (i j:Int):Prop:=0≤j∧j≤1000000∧i.natAbs < 2 ^ 64
noncomputable def Le (i j:Int):Prop:=(-(2 ^ 64) < i∧i < 2 ^ 64)∨(-(2 ^ 64) < j∧j < 2 ^ 64)
theorem Le.ok {i j:Int} (h:Le i j):IntMulOk i j:=by
 rcases h with ⟨h1,h2⟩ | ⟨h1,h2⟩
 ·exact .of_left (intBits_le_64 h1 h2)
 ·exact .of_right (intBits_le_64 h1 h2)
theorem Uv:gW X (binaryOp .Add) (Jr fun i j=>.int (i + j)):=W5 fun _ _ _ _ _ _ _ q=>add_int q
theorem DN:gW X (binaryOp .Sub) (Jr fun i j=>.int (i - j)):=W5 fun _ _ _ _ _ _ _ q=>sub_int q
theorem oU:gW X (binaryOp .Mult) (rI Le fun i j=>.int (i * j)):=YW fun _ _ _ _ _ _ _ hc q=>mul_int q hc.ok
theorem GP:gW X (binaryOp .FloorDiv) (rI W6 fun i j=>.int (i / j)):=YW fun i j _ _ _ _ _ hc q=>by
 have h1:(0:Int) < j:=hc.1
 have h2:j < 1073741824:=hc.2
 exact floordiv_int (by omega) (by rw [Int.fdiv_eq_ediv_of_nonneg i (by omega)]; exact q) (.inl (PyProof.noPylong_small (by omega)))
theorem oV:gW X (binaryOp .Mod) (rI (fun _ j=>0 < j) fun i j=>.int (i % j)):=YW fun i j _ _ _ _ _ hc q=>by
 have h1:(0:Int) < j:=hc
 exact mod_int' (by omega) (by rw [Int.fmod_eq_emod_of_nonneg i (by omega)]; exact q)
theorem yW:gW X (binaryOp .Pow) (rI W7 fun i j=>.int (i ^ j.toNat)):=YW fun _ _ _ _ _ _ _ hc q=>pow_int_small hc.1 hc.2.1 hc.2.2 q
end
noncomputable def Uw:V→V→Bool
 | .non,.non=>true | .non,.int _=>true | .int _,.non=>true | .non,.bl _=>true | .bl _,.non=>true | .non,.str _=>true | .str _,.non=>true
 | .int _,.int _=>true | .bl _,.bl _=>true | .str _,.str _=>true | .Jk _,.Jk _=>true
 | .int _,.str _=>true | .str _,.int _=>true | .bl _,.str _=>true | .str _,.bl _=>true
 | _,_=>false
noncomputable def rEq:R2:=fun x y H Q=>Uw x y=true∧Q (.bl (decide (x=y))) H
noncomputable def rNe:R2:=fun x y H Q=>Uw x y=true∧Q (.bl (!decide (x=y))) H
theorem yX {i j:Int}:decide (V.int i=V.int j)=(i==j):=by
 rw [Bool.eq_iff_iff]
 simp
theorem DP {i j:Bool}:decide (V.bl i=V.bl j)=(i==j):=by
 rw [Bool.eq_iff_iff]
 simp
theorem yZ {i j:Str}:decide (V.str i=V.str j)=(i==j):=by
 rw [Bool.eq_iff_iff]
 simp
theorem GQ {i j:Array UInt8}:decide (V.Jk i=V.Jk j)=(i.toList==j.toList):=by
 rw [Bool.eq_iff_iff]
 cases i
 cases j
 simp
section
variable {X:Cx} {a b c:Expr} {ta tb tc:TE} {pos:Pos}
theorem bC {pins:List (Addr×Obj)} {σ:St} {H:Hp} {s:Shared} {Q:VK} {k k':Bool} (I:Inv X pins σ H s) (q:Q (.bl k) H) (e:k=k'):EP X pins σ Q (.bool k') s:=by
 subst e
 exact ⟨.bl k,H,I,rfl,q⟩
theorem W8:gW X (compareOp .Eq) rEq:=by
 intro pins s σ H x y v u Q I rx ry h
 obtain ⟨hs,q⟩:=h
 cases x with
 | non=>
  cases rx
  cases y with
  | non=>cases ry; exact PySem.EqNone.eq_none_none (bC I q (by simp))
  | bl j=>cases ry; exact PySem.EqNone.eq_none_bool (bC I q (by simp))
  | int j=>obtain ⟨t',rfl⟩:=ry; exact PySem.EqNone.eq_none_int (bC I q (by simp))
  | str j=>obtain ⟨t',rfl⟩:=ry; exact PySem.EqNone.eq_none_str (bC I q (by simp))
  | _=>exact absurd (show false=true from hs) Bool.false_ne_true
 | bl i=>
  cases rx
  cases y with
  | non=>cases ry; exact PySem.EqNone.eq_bool_none (bC I q (by simp))
  | bl j=>cases ry; exact eq_bool (bC I q DP)
  | str j=>obtain ⟨t',rfl⟩:=ry; exact PySem.EqMixed.eq_bool_str (bC I q (by simp))
  | _=>exact absurd (show false=true from hs) Bool.false_ne_true
 | int i=>
  obtain ⟨t,rfl⟩:=rx
  cases y with
  | non=>cases ry; exact PySem.EqNone.eq_int_none (bC I q (by simp))
  | int j=>obtain ⟨t',rfl⟩:=ry; exact eq_int (bC I q yX)
  | str j=>obtain ⟨t',rfl⟩:=ry; exact PySem.EqMixed.eq_int_str (bC I q (by simp))
  | _=>exact absurd (show false=true from hs) Bool.false_ne_true
 | str i=>
  obtain ⟨t,rfl⟩:=rx
  cases y with
  | non=>cases ry; exact PySem.EqNone.eq_str_none (bC I q (by simp))
  | bl j=>cases ry; exact PySem.EqMixed.eq_str_bool (bC I q (by simp))
  | int j=>obtain ⟨t',rfl⟩:=ry; exact PySem.EqMixed.eq_str_int (bC I q (by simp))
  | str j=>obtain ⟨t',rfl⟩:=ry; exact eq_str (bC I q yZ)
  | _=>exact absurd (show false=true from hs) Bool.false_ne_true
 | Jk i=>
  obtain ⟨t,rfl⟩:=rx
  cases y with
  | Jk j=>obtain ⟨t',rfl⟩:=ry; exact PySem.W.eq_bytes (bC I q GQ)
  | _=>exact absurd (show false=true from hs) Bool.false_ne_true
 | _=>cases y <;> exact absurd (show false=true from hs) Bool.false_ne_true
theorem W9:gW X (compareOp .NotEq) rNe:=by
 intro pins s σ H x y v u Q I rx ry h
 obtain ⟨hs,q⟩:=h
 cases x with
 | non=>
  cases rx
  cases y with
  | non=>cases ry; exact PySem.EqNone.ne_none_none (bC I q (by simp))
  | bl j=>cases ry; exact PySem.EqNone.ne_none_bool (bC I q (by simp))
  | int j=>obtain ⟨t',rfl⟩:=ry; exact PySem.EqNone.ne_none_int (bC I q (by simp))
  | str j=>obtain ⟨t',rfl⟩:=ry; exact PySem.EqNone.ne_none_str (bC I q (by simp))
  | _=>exact absurd (show false=true from hs) Bool.false_ne_true
 | bl i=>
  cases rx
  cases y with
  | non=>cases ry; exact PySem.EqNone.ne_bool_none (bC I q (by simp))
  | bl j=>cases ry; exact ne_bool (bC I q (congrArg not DP))
  | str j=>obtain ⟨t',rfl⟩:=ry; exact PySem.EqMixed.ne_bool_str (bC I q (by simp))
  | _=>exact absurd (show false=true from hs) Bool.false_ne_true
 | int i=>
  obtain ⟨t,rfl⟩:=rx
  cases y with
  | non=>cases ry; exact PySem.EqNone.ne_int_none (bC I q (by simp))
  | int j=>obtain ⟨t',rfl⟩:=ry; exact ne_int (bC I q (congrArg not yX))
  | str j=>obtain ⟨t',rfl⟩:=ry; exact PySem.EqMixed.ne_int_str (bC I q (by simp))
  | _=>exact absurd (show false=true from hs) Bool.false_ne_true
 | str i=>
  obtain ⟨t,rfl⟩:=rx
  cases y with
  | non=>cases ry; exact PySem.EqNone.ne_str_none (bC I q (by simp))
  | bl j=>cases ry; exact PySem.EqMixed.ne_str_bool (bC I q (by simp))
  | int j=>obtain ⟨t',rfl⟩:=ry; exact PySem.EqMixed.ne_str_int (bC I q (by simp))
  | str j=>obtain ⟨t',rfl⟩:=ry; exact ne_str (bC I q (congrArg not yZ))
  | _=>exact absurd (show false=true from hs) Bool.false_ne_true
 | Jk i=>
  obtain ⟨t,rfl⟩:=rx
  cases y with
  | Jk j=>obtain ⟨t',rfl⟩:=ry; exact PySem.W.ne_bytes (bC I q (congrArg not GQ))
  | _=>exact absurd (show false=true from hs) Bool.false_ne_true
 | _=>cases y <;> exact absurd (show false=true from hs) Bool.false_ne_true
theorem Xa:gW X (compareOp .LtE) (Jr fun i j=>.bl (decide (i≤j))):=Uu fun _ _ _ _ _ _ _ q=>le_int q
theorem Xb:gW X (compareOp .Gt) (Jr fun i j=>.bl (decide (j < i))):=Uu fun _ _ _ _ _ _ _ q=>gt_int q
theorem Sw:gW X (compareOp .GtE) (Jr fun i j=>.bl (decide (j≤i))):=Uu fun _ _ _ _ _ _ _ q=>ge_int q
theorem Lf:gW X (compareOp .Is) (fun x y H Q=>y=.non∧Q (.bl (decide (x=.non))) H):=by
 intro pins s σ H x y v u Q I rx ry h
 obtain ⟨rfl,q⟩:=h
 cases ry
 refine is_none_gen (bC I q ?_)
 cases x <;> first
  | (cases rx; rfl)
  | (obtain ⟨t,rfl⟩:=rx; rfl)
theorem gW.or {f:Value→Value→Sem Value} {r r':R2} (h:gW X f r) (h':gW X f r'):gW X f (fun x y H Q=>r x y H Q∨r' x y H Q):=by
 intro pins s σ H x y v u Q I rx ry q
 rcases q with q | q
 ·exact h pins s σ H x y v u Q I rx ry q
 ·exact h' pins s σ H x y v u Q I rx ry q
theorem cV (b:Expr) {op:CmpOp} (h:op≠.In:=by decide) (h2:op≠.NotIn:=by decide):behindInMarks op b=false:=by
 have e1:(op==CmpOp.In)=false:=by cases op <;> first | rfl | exact absurd rfl h
 have e2:(op==CmpOp.NotIn)=false:=by cases op <;> first | rfl | exact absurd rfl h2
 cases b <;> simp [behindInMarks,e1,e2]
theorem Qe {op:CmpOp} {r:R2} (ho:gW X (compareOp op) r) (ha:PE X a ta) (hb:PE X b tb) (hm:behindInMarks op b=false):PE X (.Compare a [op] [b] pos) (W3 r ta tb):=by
 intro pins s σ H Q I h
 exact wpAny_Compare1 (Ut ha hb I h fun v u s2 x y H2 I2 rx ry q=>ho pins s2 σ H2 x y v u Q I2 rx ry q) hm
noncomputable def Lg (t:TE):TT:=fun σ H Q=>t σ H fun x H'=>∃k,x=.bl k∧Q k H'
theorem Qf {op:CmpOp} {r:R2} (ho:gW X (compareOp op) r) (ha:PE X a ta) (hb:PE X b tb) (hm:behindInMarks op b=false):PT X (.Compare a [op] [b] pos) (Lg (W3 r ta tb)):=by
 intro pins s σ H Q I h
 refine wpAny_isTrue_Compare1 (cU (ha pins s σ H _ I h) fun v s1 ⟨x,H1,I1,r1,q1⟩=>cU (hb pins s1 σ H1 _ I1 q1) fun u s2 ⟨y,H2,I2,r2,q2⟩=>
  cU (ho pins s2 σ H2 x y v u _ I2 r1 r2 q2) fun c s3 ⟨z,H3,I3,r3,k,e,q3⟩=>?_) hm
 subst e
 cases r3
 exact wpAny_truthy_bool ⟨H3,I3,q3⟩
noncomputable def Lh (r r':R2) (ta tb tc:TE):TE:=fun σ H Q=>ta σ H fun x H1=>tb σ H1 fun y H2=>r x y H2 fun z H3=>∃k,z=.bl k∧
 (if k=true then tc σ H3 fun w' H4=>r' y w' H4 Q else Q (.bl false) H3)
theorem Li {op op':CmpOp} {r r':R2} (ho:gW X (compareOp op) r) (ho':gW X (compareOp op') r') (ha:PE X a ta) (hb:PE X b tb) (hc:PE X c tc)
  (hm:lastMarks [op,op'] [b,c]=false:=by with_unfolding_all rfl):PT X (.Compare a [op,op'] [b,c] pos) (Lg (Lh r r' ta tb tc)):=by
 intro pins s σ H Q I h
 refine isTrue_chain (cU (ha pins s σ H _ I h) fun v s1 ⟨x,H1,I1,r1,q1⟩=>test_link (cU (hb pins s1 σ H1 _ I1 q1) fun u s2 ⟨y,H2,I2,r2,q2⟩=>
  cU (ho pins s2 σ H2 x y v u _ I2 r1 r2 q2) fun d s3 ⟨z,H3,I3,r3,k,e,q3⟩=>?_)) hm
 subst e
 cases r3
 refine wpAny_truthy_bool ?_
 cases k with
 | false=>
  obtain ⟨k',e',q'⟩:=q3
  cases e'
  exact ite_ff ⟨H3,I3,q'⟩
 | true=>
  refine ite_tt (test_last (cU (hc pins s3 σ H3 _ I3 q3) fun w' s4 ⟨z',H4,I4,r4,q4⟩=>cU (ho' pins s4 σ H4 y z' u w' _ I4 r2 r4 q4) fun d' s5 aV=>?_))
  obtain ⟨z2,H5,I5,r5,k2,e2,q5⟩:=aV
  subst e2
  cases r5
  exact wpAny_truthy_bool ⟨H5,I5,q5⟩
noncomputable def Ux (K:PySem.W.Frag) (x:V) (H:Hp) (k:Bool):Prop:=
 match x with
 | .non=>k=false
 | .bl b=>k=b
 | .int i=>k=(i != 0)
 | .str y=>y.length≤sizeLine∧k=((y.length:Int) != 0)
 | .Jk y=>y.size≤sizeLine∧k=((y.size:Int) != 0)
 | .ref p=>(∃xs,cO K H p xs∧k=!xs.isEmpty)∨(∃xs,eX K H p xs∧k=!xs.isEmpty)∨∃kvs,H p=some (.dK kvs)∧k=!kvs.isEmpty
 | _=>False
theorem DQ {κ:Type} {kvs:List (κ×V)} {vs:List (κ×Value)} (r:KV kvs vs):(!vs.isEmpty)=!kvs.isEmpty:=by
 cases r <;> rfl
theorem uy {xs:List V} {its:List Value} (r:Vals xs its):(!its.toArray.isEmpty)=!xs.isEmpty:=by
 cases r <;> simp
theorem oW:(sizeLine:Nat) < 2 ^ 63:=by rw [sizeLine_eq]; decide
theorem Uy:ZP X (fun x H Q=>∃k,Ux X.K x H k∧Q k H):=by
 intro pins s σ H x v Q I rx h
 obtain ⟨k,e,q⟩:=h
 have hl:=oW
 have hs:sizeLine=16777216:=sizeLine_eq
 cases x with
 | non=>
  cases rx
  have e':k=false:=e
  subst e'
  exact truthy_none ⟨H,I,q⟩
 | bl b=>
  cases rx
  have e':k=b:=e
  subst e'
  exact wpAny_truthy_bool ⟨H,I,q⟩
 | int i=>
  obtain ⟨t,rfl⟩:=rx
  have e':k=(i != 0):=e
  subst e'
  exact PySem.P.truthy_int ⟨H,I,q⟩
 | str y=>
  obtain ⟨t,rfl⟩:=rx
  obtain ⟨hy,e'⟩:y.length≤sizeLine∧k=((y.length:Int) != 0):=e
  subst e'
  exact PySem.P.truthy_str (by omega) ⟨H,I.tok _,q⟩
 | Jk y=>
  obtain ⟨t,rfl⟩:=rx
  obtain ⟨hy,e'⟩:y.size≤sizeLine∧k=((y.size:Int) != 0):=e
  subst e'
  exact PySem.W.truthy_bytes (by omega) ⟨H,I.tok _,q⟩
 | ref p=>
  cases rx
  have e':(∃xs,cO X.K H p xs∧k=!xs.isEmpty)∨(∃xs,eX X.K H p xs∧k=!xs.isEmpty)∨∃kvs,H p=some (.dK kvs)∧k=!kvs.isEmpty:=e
  rcases e' with ⟨xs,hx,e'⟩ | ⟨xs,hx,e'⟩ | ⟨kvs,hx,e'⟩
  ·subst e'
   obtain ⟨its,r,pl,hz⟩:=I.list hx
   have hlen:=r.length
   exact wpAny_truthy_list pl.isList (by simp only [List.size_toArray]; omega) ⟨H,I.tok _,by rw [uy r]; exact q⟩
  ·subst e'
   obtain ⟨its,r,pl,hz⟩:=I.tuple hx
   have hlen:=r.length
   exact truthy_tuple pl (by simp only [List.size_toArray]; omega) ⟨H,I.tok _,by rw [uy r]; exact q⟩
  ·subst e'
   obtain ⟨hz,hS,vs,r,m⟩:kvs.length≤sizeLine∧(p==sysModules)=false∧∃vs,KV kvs vs∧s.heap.DictOf (dH X.prog X.w) p vs:=I.hok p _ hx
   have hlen:kvs.length=vs.length:=Paired.length r
   exact wpAny_truthy_dict hS m (by omega) ⟨H,I.tok _,by rw [DQ r]; exact q⟩
 | _=>exact (show False from e).elim
theorem Lj (ha:PE X a ta) (he:∀whole,isTrue a X.env whole=(do let v ←whole; standAt a.pos; holding [v] (truthy v))):
  PT X a (fun σ H Q=>ta σ H fun x H'=>∃k,Ux X.K x H' k∧Q k H'):=by
 intro pins s σ H Q I h
 exact isTrue_plain (cU (ha pins s σ H _ I h) fun v s1 ⟨x,H1,I1,r1,q1⟩=>Uy pins s1 σ H1 x v Q I1 r1 q1) (he _)
theorem DR:gW X (binaryOp .Add) (fun x y H Q=>∃i j,x=.str i∧y=.str j∧i.length + j.length≤sizeLine∧Q (.str (i++j)) H):=by
 intro pins s σ H x y v u Q I rx ry h
 obtain ⟨i,j,rfl,rfl,hz,q⟩:=h
 obtain ⟨t,rfl⟩:=rx
 obtain ⟨t',rfl⟩:=ry
 exact add_str (fun t' tk=>⟨.str (i++j),H,I.tok _,⟨_,rfl⟩,q⟩) hz
theorem vals1 {x:V} {us:List Value} (r:Vals [x] us):∃u,us=[u]∧RelV x u:=by
 cases r with
 | cons r1 r2=>cases r2; exact ⟨_,rfl,r1⟩
theorem vals2 {x y:V} {us:List Value} (r:Vals [x,y] us):∃u w',us=[u,w']∧RelV x u∧RelV y w':=by
 cases r with
 | cons r1 r2=>
  cases r2 with
  | cons r3 r4=>cases r4; exact ⟨_,_,rfl,r1,r3⟩
theorem Aq:cD X (.builtin "abs") (fun xs H Q=>∃i,xs=[.int i]∧Q (.int (if i < 0 then -i else i)) H):=by
 intro pins s σ H xs us Q I r h
 obtain ⟨i,rfl,q⟩:=h
 obtain ⟨u,rfl,t,rfl⟩:=vals1 r
 exact call_abs_int fun u tk=>⟨.int (if i < 0 then -i else i),H,I.tok _,⟨_,rfl⟩,q⟩
theorem Js (hc:X.calm=true):cD X (.builtin "max") (fun xs H Q=>∃i j,xs=[.int i,.int j]∧Q (.int (if j > i then j else i)) H):=by
 intro pins s σ H xs us Q I r h
 obtain ⟨i,j,rfl,q⟩:=h
 obtain ⟨u,w',rfl,⟨t,rfl⟩,⟨t',rfl⟩⟩:=vals2 r
 refine max_two_ints (I.ok.hd hc) fun h' tk k=>⟨_,H,I.kept k,?_,q⟩
 by_cases hj:j > i
 ·rw [if_pos hj,if_pos hj]; exact ⟨_,rfl⟩
 ·rw [if_neg hj,if_neg hj]; exact ⟨_,rfl⟩
theorem Jt (hc:X.calm=true):cD X (.builtin "min") (fun xs H Q=>∃i j,xs=[.int i,.int j]∧Q (.int (if j < i then j else i)) H):=by
 intro pins s σ H xs us Q I r h
 obtain ⟨i,j,rfl,q⟩:=h
 obtain ⟨u,w',rfl,⟨t,rfl⟩,⟨t',rfl⟩⟩:=vals2 r
 refine min_two_ints (I.ok.hd hc) fun h' tk k=>⟨_,H,I.kept k,?_,q⟩
 by_cases hj:j < i
 ·rw [if_pos hj,if_pos hj]; exact ⟨_,rfl⟩
 ·rw [if_neg hj,if_neg hj]; exact ⟨_,rfl⟩
theorem Ju:cD X (.type "int") (fun xs H Q=>(∃i,xs=[.int i]∧Q (.int i) H)∨∃k,xs=[.bl k]∧Q (.int (if k then 1 else 0)) H):=by
 intro pins s σ H xs us Q I r h
 rcases h with ⟨i,rfl,q⟩ | ⟨k,rfl,q⟩
 ·obtain ⟨u,rfl,t,rfl⟩:=vals1 r
  exact call_int_int ⟨.int i,H,I,⟨_,rfl⟩,q⟩
 ·obtain ⟨u,rfl,r1⟩:=vals1 r
  cases r1
  exact call_int_bool ⟨.int (if k then 1 else 0),H,I.tok _,⟨_,rfl⟩,q⟩
end
end L2
namespace L2
open PySem PySem.Spec PyProof.Rows
structure Uz (h:Heap) (x dx C:Addr) (mA:Str→Option Value):Prop where
 obj:h.get? x=some (PySem.W.instObj C dx)
 ns:h.Ns1 dx mA
 ne:dx≠x
theorem Jv {h:Heap} {dx:Addr} {mA:Str→Option Value} (n:h.Ns1 dx mA):∃od,h.get? dx=some od∧∀name,PySem.W.lookIn name od=some (mA name):=by
 obtain ⟨o,es,ep,ho,hd,hk,_,hm⟩:=n
 refine ⟨o,ho,fun name=>?_⟩
 have e:=hm name
 unfold nsFind findBy at e
 rw [←Array.find?_toList] at e
 unfold PySem.W.lookIn
 rw [hd]
 dsimp only
 split
 ·rename_i y q
  rw [q] at e
  exact congrArg some e
 ·rename_i q
  rw [q] at e
  have a:es.toList.any (·.refKey)=false:=by
   rw [List.any_eq_false]
   intro y hy
   obtain ⟨z,t,hkey⟩:=hk y (Array.mem_toList_iff.mp hy)
   simp [DictEntry.refKey,hkey]
  have a':¬es.toList.any (·.refKey)=true:=by rw [a]; exact Bool.false_ne_true
  rw [if_neg a']
  exact congrArg some e
theorem Uz.look {h:Heap} {x dx C:Addr} {mA:Str→Option Value} (I:Uz h x dx C mA):∃od,PySem.W.InstAt h x (PySem.W.instObj C dx) C (some od)∧∀name,PySem.W.lookIn name od=some (mA name):=
 let ⟨od,ho,hl⟩:=Jv I.ns
 ⟨od,⟨I.obj,rfl,rfl,ho⟩,hl⟩
section
variable {prog:Program} {w:World} {A:Around} {E:Value→Shared→Prop} {s:Shared} {K:PySem.W.Frag} {x dx C f:Addr} {mA:Str→Option Value} {name:Str} {v:Value}
end
theorem qR.some_of {v:V} {o:Option Value} (r:qR (some v) o):∃u,o=some u∧RelV v u:=by
 cases o with
 | none=>exact (show False from r).elim
 | some u=>exact ⟨u,rfl,r⟩
section
variable {P:Program} {w:World} {H H':Hp} {h h':Heap} {a C dx:Addr} {fs fs':List (Str×V)}
theorem GR (hok:pM P w H h) (e:H a=some (.ins C dx fs)):∃mA,Uz h a dx C mA∧(∀f,qR (fs.lookup f) (mA f))∧PySem.Within mA (fs.map (·.1))∧fs.length≤1000∧H dx=some (.own a):=by
 obtain ⟨d,z,ne,ob,mA,n,r,q⟩:=(show bW P w H h a (.ins C dx fs) from hok a _ e)
 exact ⟨mA,⟨ob,n,ne⟩,r,q,z,d⟩
end
structure ZQ (K:PySem.W.Frag) (C:Addr):Prop where
 pg:PySem.W.plainGet K C Str.empty=true
 hd:PySem.W.hasDictIn K C=true
 po:PySem.W.plainOver K C=true
 sa:PySem.W.findIn K (.ref C) "__setattr__"=some (some (.builtin "object.__setattr__"))
theorem ZQ.get {K:PySem.W.Frag} {C:Addr} (c:ZQ K C) (f:Str):PySem.W.plainGet K C f=true:=c.pg
noncomputable def Lk (K:PySem.W.Frag) (C:Addr) (f:Str):Prop:=PySem.W.findIn K (.ref C) f=some none
theorem Lk.taker {K:PySem.W.Frag} {C:Addr} {f:Str} (n:Lk K C f):PySem.W.takerIn K C f=some none:=by
 unfold PySem.W.takerIn
 rw [show PySem.W.findIn K (.ref C) f=some none from n]
 rfl
structure Con (K:PySem.W.Frag) (C:Addr) (f:Str) (v:V) (u:Value):Prop where
 at_:PySem.W.findIn K (.ref C) f=some (some u)
 rel:RelV v u
 get:PySem.W.specialIn K u "__get__"=some none
 cp:PySem.W.copiedNames.contains f=false
structure Meth (K:PySem.W.Frag) (C:Addr) (m:Str) (f:Addr):Prop where
 at_:PySem.W.findIn K (.ref C) m=some (some (.ref f))
 fn:PySem.W.isFn K (.ref f)=true
 kp:PySem.W.keepIn K (.ref f)=true
section
variable {X:Cx} {pins:List (Addr×Obj)} {σ:St} {H:Hp} {s:Shared} {a C dx:Addr} {fs:List (Str×V)} {f:Str} {v:V} {A:Around} {E:Value→Shared→Prop}
theorem Inv.made (I:Inv X pins σ H s):Inv X pins σ (upd (upd H s.heap.objs.size (.own (s.heap.objs.size + 1))) (s.heap.objs.size + 1) (.ins C s.heap.objs.size []))
  { s with heap:=(s.heap.push PySem.W.emptyDict).push (PySem.W.instObj C s.heap.objs.size) }:=by
 have e1:(s.heap.push PySem.W.emptyDict).get? s.heap.objs.size=some PySem.W.emptyDict:=Heap.get?_push_size s.heap rfl
 have e2:((s.heap.push PySem.W.emptyDict).push (PySem.W.instObj C s.heap.objs.size)).get? (s.heap.objs.size + 1)=some (PySem.W.instObj C s.heap.objs.size):=by
  have:=Heap.get?_push_size (s.heap.push PySem.W.emptyDict) (o:=PySem.W.instObj C s.heap.objs.size) rfl
  rwa [Heap.size_push] at this
 have e3:(s.heap.push PySem.W.emptyDict).Ns s.heap.objs.size (fun _=>none):=⟨PySem.W.emptyDict,#[],_,e1,rfl,(fun e he=>absurd he (by simp)),fun _=>rfl⟩
 have I1:=I.laid (a:=s.heap.objs.size) (o:=.own (s.heap.objs.size + 1)) (h':=s.heap.push PySem.W.emptyDict) (t':=s.toks) (fun b u q=>Heap.get?_push_of_some _ q) (Nat.le_refl _) ⟨_,e1⟩
 refine I1.laid (a:=s.heap.objs.size + 1) (o:=.ins C s.heap.objs.size []) (t':=s.toks) (fun b u q=>Heap.get?_push_of_some _ q) (Nat.le_of_eq (Heap.size_push _ _)) ?_
 have ne:s.heap.objs.size≠s.heap.objs.size + 1:=Nat.ne_of_lt (Nat.lt_succ_self _)
 refine ⟨by rw [aJ ne,aH],Nat.zero_le _,ne,e2,fun _=>none,(Heap.Ns1.of_empty e3).at fun o q=>Heap.get?_push_of_some _ q,fun _=>True.intro,fun y hy=>absurd rfl hy⟩
end
section
variable {X:Cx} {o e value:Expr} {f:Str} {pos pos' tpos:Pos} {ta tv:TE}
end
section
variable {X:Cx} {pins:List (Addr×Obj)} {σ:St} {H:Hp} {s:Shared} {A:Around} {E:Value→Shared→Prop} {Q:Value→Shared→Prop} {c:Value} {b:Bool}
inductive mj (K:PySem.W.Frag) (H:Hp):V→Value→Prop where
 | non:mj K H .non (.type "NoneType")
 | bl (x:Bool):mj K H (.bl x) (.type "bool")
 | int (i:Int):mj K H (.int i) (.type "int")
 | str (x:Str):mj K H (.str x) (.type "str")
 | flt (x:UInt64):mj K H (.flt x) (.type "float")
 | lst {a:Addr} {xs:List V} (e:H a=some (.lst xs)):mj K H (.ref a) (.type "list")
 | Al {a:Addr} {o:Obj} {xs:List V} (e:H a=some (.Al o (.lst xs))):mj K H (.ref a) (.type "list")
 | tup {a:Addr} {xs:List V} (e:H a=some (.tup xs)):mj K H (.ref a) (.type "tuple")
 | dK {a:Addr} {kvs:List (Key×V)} (e:H a=some (.dK kvs)):mj K H (.ref a) (.type "dict")
 | dT {a:Addr} {kvs:List (List Key×V)} (e:H a=some (.dT kvs)):mj K H (.ref a) (.type "dict")
 | ins {a C dx:Addr} {fs:List (Str×V)} (e:H a=some (.ins C dx fs)) (cl:ZQ K C) (ha:PySem.W.findIn K (.ref C) "__class__"=some (some (.builtin "object.__class__")))
   (hn:PySem.W.specialIn K (.builtin "object.__class__") "__get__"=some (some (.builtin "getset_descriptor.__get__"))) (htk:PySem.W.takesIn K (.builtin "object.__class__")=some true)
   (hm:PySem.W.mroIn K C (.type "object")=some true):mj K H (.ref a) (.ref C)
theorem Jw {x:V} {u t:Value} (I:Inv X pins σ H s) (rx:RelV x u) (ty:mj X.K H x t) (e:PySem.W.kitOne X.K t c=some b) (h:∀tk,Q (.bool b) { s with toks:=tk }):
  wpAny (model X.prog X.w) A (call (.builtin "isinstance") [u,c]) Q E s:=by
 cases ty with
 | non=>cases (show u=Value.none from rx); exact PySem.W.kia_one PySem.W.kitx_none I.pO True.intro e (fun z=>nomatch z) h
 | bl y=>cases (show u=Value.bool y from rx); exact PySem.W.kia_one PySem.W.kitx_bool I.pO True.intro e (fun z=>nomatch z) h
 | int i=>obtain ⟨t,q⟩:=(show ∃t,u=Value.int i t from rx); cases q; exact PySem.W.kia_one PySem.W.kitx_int I.pO True.intro e (fun z=>nomatch z) h
 | str y=>obtain ⟨t,q⟩:=(show ∃t,u=Value.str y t from rx); cases q; exact PySem.W.kia_one PySem.W.kitx_str I.pO True.intro e (fun z=>nomatch z) h
 | flt y=>obtain ⟨t,q⟩:=(show ∃t,u=Value.float y t from rx); cases q; exact PySem.W.kia_one PySem.W.kitx_float I.pO True.intro e (fun z=>nomatch z) h
 | @lst a xs ea=>
  cases (show u=Value.ref a from rx)
  obtain ⟨_,_,n,_,h1⟩:=(show bW X.prog X.w H s.heap a (.lst xs) from I.hok a _ ea)
  exact PySem.W.kia_one PySem.W.kitx_list I.pO ⟨_,h1,rfl⟩ e (fun z=>nomatch z) h
 | @Al a ob xs ea=>
  cases (show u=Value.ref a from rx)
  obtain ⟨_,_,_,n,_,h1⟩:=(show bW X.prog X.w H s.heap a (.Al ob (.lst xs)) from I.hok a _ ea)
  exact PySem.W.kia_one PySem.W.kitx_list I.pO ⟨_,h1,rfl⟩ e (fun z=>nomatch z) h
 | @tup a xs ea=>
  cases (show u=Value.ref a from rx)
  obtain ⟨_,_,_,p⟩:=(show bW X.prog X.w H s.heap a (.tup xs) from I.hok a _ ea)
  obtain ⟨o,h1,h2,_⟩:=p
  exact PySem.W.kia_one PySem.W.kitx_tuple I.pO ⟨o,h1,h2⟩ e (fun z=>nomatch z) h
 | @dK a kvs ea=>
  cases (show u=Value.ref a from rx)
  obtain ⟨_,_,vs,_,p⟩:=(show bW X.prog X.w H s.heap a (.dK kvs) from I.hok a _ ea)
  obtain ⟨o,es,ep,h1,h2,_⟩:=p
  exact PySem.W.kia_one PySem.W.kitx_dict I.pO ⟨o,h1,h2.1⟩ e (fun z=>nomatch z) h
 | @dT a kvs ea=>
  cases (show u=Value.ref a from rx)
  obtain ⟨_,_,xs,_,o,es,ep,h1,h2,_⟩:=(show bW X.prog X.w H s.heap a (.dT kvs) from I.hok a _ ea)
  exact PySem.W.kia_one PySem.W.kitx_dict I.pO ⟨o,h1,h2.1⟩ e (fun z=>nomatch z) h
 | @ins a C dx fs ea cl ha hn htk hm=>
  cases (show u=Value.ref a from rx)
  obtain ⟨mA,O,_⟩:=GR I.hok ea
  obtain ⟨od,J,_⟩:=O.look
  exact PySem.W.kia_one (PySem.W.kitx_own (cl.get _) cl.hd ha hn htk hm) I.pO J e (fun z=>nomatch z) h
end
end L2
namespace L2
open PySem PySem.Spec PyProof.Rows
structure fH (k:Nat) (A:Around):Prop where
 hd:A.handled=none
 dp:A.depth + 3 * k + 5 < recursionLimit
 un:A.units + 16 * k + 200 < cLine
 gd:A.guards=some []
theorem fH.mono {j k:Nat} {A:Around} (r:fH k A) (h:j≤k):fH j A:=⟨r.hd,by have:=r.dp; omega,by have:=r.un; omega,r.gd⟩
theorem fH.deeper {k:Nat} {A:Around} (r:fH (k + 1) A) (env:Env):fH k (A.deeper env):=
 ⟨r.hd,by have:=r.dp; show A.depth + 1 + 3 * k + 5 < _; omega,by have:=r.un; show A.units + 3 + 16 * k + 200 < _; omega,r.gd⟩
theorem fH.in1 {k:Nat} {A:Around} (r:fH (k + 1) A):fH k A.in1:=
 ⟨r.hd,by have:=r.dp; show A.depth + 3 * k + 5 < _; omega,by have:=r.un; show A.units + 1 + 16 * k + 200 < _; omega,r.gd⟩
theorem fH.depth {k:Nat} {A:Around} (r:fH k A):A.depth < recursionLimit:=by have:=r.dp; omega
theorem fH.units {k:Nat} {A:Around} (r:fH k A):A.units + 64 < cLine:=by have:=r.un; omega
theorem fH.Ln {k:Nat} {A:Around} (r:fH k A):A.units < cLine:=by have:=r.un; omega
noncomputable def UG:TA:=fun _ H Q=>Q [] H
noncomputable def Xc (ta:TE) (tr:TA):TA:=fun σ H Q=>ta σ H fun x H1=>tr σ H1 fun xs H2=>Q (x::xs) H2
section
variable {X:Cx} {e:Expr} {es:List Expr} {te:TE} {t:TA} {pos:Pos}
theorem jA:PA X [] UG:=fun _ _ _ _ H Q I h=>Calls.spliced_nil ⟨[],H,I,.nil,h⟩
theorem dX (ha:PE X e te) (hr:PA X es t) (hs:starEach (e::es) X.env=(false,eval e X.env)::starEach es X.env:=by rfl):PA X (e::es) (Xc te t):=by
 intro pos pins s σ H Q I h
 rw [hs]
 show wpAny _ _ (spliced ((false,eval e X.env)::backTo pos (starEach es X.env))) _ _ s
 refine Calls.spliced_cons (cU (ha pins s σ H _ I h) fun u s1 aV=>?_)
 obtain ⟨x,H1,I1,r1,q1⟩:=aV
 exact cU (hr pos pins s1 σ H1 _ I1 q1) fun us s2 ⟨xs,H2,I2,r2,q2⟩=>⟨x::xs,H2,I2,.cons r1 r2,q2⟩
noncomputable def ZR (t:TA):TE:=fun σ H Q=>t σ H fun xs H1=>xs.length≤sizeLine∧∀p,H1 p=none→Q (.ref p) (upd H1 p (.tup xs))
noncomputable def ZS (t:TA):TE:=fun σ H Q=>t σ H fun xs H1=>xs.length≤sizeLine∧∀p,H1 p=none→Q (.ref p) (upd H1 p (.lst xs))
theorem DW {x1} (h:PA X es t):PE X (.Tuple es x1 pos) (ZR t):=by
 intro pins s σ H Q I hq
 refine wpAny_Tuple_spliced (cU (h pos pins s σ H _ I hq) fun us s1 ⟨xs,H1,I1,r,z,q⟩=>⟨by rw [←r.length]; exact z,?_⟩)
 have hf:H1 s1.heap.objs.size=none:=I1.hok.fresh (Nat.le_refl _)
 refine ⟨.ref s1.heap.objs.size,upd H1 s1.heap.objs.size (.tup xs),I1.laid (t':=s1.toks) (fun b u e=>Heap.get?_push_of_some _ e) (Nat.le_refl _) ?_,rfl,q _ hf⟩
 exact ⟨z,us,r,⟨_,Heap.get?_push_size _ rfl,rfl,_,rfl⟩⟩
theorem UJ (h:PA X es t):PE X (.List es pos) (ZS t):=by
 intro pins s σ H Q I hq
 refine wpAny_List_spliced (cU (h pos pins s σ H _ I hq) fun us s1 ⟨xs,H1,I1,r,z,q⟩=>⟨by rw [←r.length]; exact z,?_⟩)
 have hf:H1 s1.heap.objs.size=none:=I1.hok.fresh (Nat.le_refl _)
 refine ⟨.ref s1.heap.objs.size,upd H1 s1.heap.objs.size (.lst xs),I1.laid (t':=s1.toks) (fun b u e=>Heap.get?_push_of_some _ e) (Nat.le_refl _) ?_,rfl,q _ hf⟩
 exact ⟨z,us,0,r,Heap.get?_push_size _ rfl⟩
end
noncomputable abbrev Sp:=List V→Hp→VK→XK→Prop
noncomputable abbrev Jx:=List Env→Hp→Shared→XK→Value→Shared→Prop
structure DX (P:Program) (w:World) (K:PySem.W.Frag) (mg:Str→Option Value) (base:Heap) (A:Around) (outer:List Env) (s:Shared) (H:Hp):Prop where
 frames:A.frames=some outer
 mod:Mod K mg base
 bs:∀b o,base.get? b=some o→s.heap.get? b=some o∧H b=none
 Pq:base.objs.size≤s.heap.objs.size
 tW:s.heap.FunFrames base outer
 Ud:∀b∈frs outer,H b=none
 hok:pM P w H s.heap
 bare:AllBare s.gens
noncomputable def CE (outer:List Env) (P:Program) (w:World) (H:Hp) (s:Shared) (Q:VK) (u:Value) (s':Shared):Prop:=
 ∃v H',s'.os=s.os∧AllBare s'.gens∧Un (frs outer) [] H H' s.heap s'.heap∧pM P w H' s'.heap∧RelV v u∧Q v H'
noncomputable def CR (CX:Jx) (outer:List Env) (P:Program) (w:World) (H:Hp) (s:Shared) (Q:VK) (E:XK) (r:Result) (s':Shared):Prop:=
 match r with
 | .ok (.ret u)=>CE outer P w H s Q u s'
 | .ok _=>False
 | .error e=>CX outer H s E e s'
structure dM (P:Program) (w:World) (K:PySem.W.Frag) (mg:Str→Option Value) (base:Heap) (CX:Jx) (k:Nat) (f:Addr) (fd:FuncData) (ps:List Str) (sp:Sp):Prop where
 len:∀vs H Q E,sp vs H Q E→vs.length=ps.length
 run:∀(A:Around) (outer:List Env) (s:Shared) (H:Hp) (args:Args) (us:List Value) (vs:List V) (Q:VK) (E:XK),fH k A→DX P w K mg base A outer s H→BindsTo s fd args (ps.zip us)→Vals vs us→sp vs H Q E→
  codeAny (model P w) A (.call (.ref f) args) (CR CX outer P w H s Q E) s
theorem dM.mono {P:Program} {w:World} {K:PySem.W.Frag} {mg:Str→Option Value} {base:Heap} {CX:Jx} {j k:Nat} {f:Addr} {fd:FuncData} {ps:List Str} {sp:Sp} (F:dM P w K mg base CX j f fd ps sp) (h:j≤k):
  dM P w K mg base CX k f fd ps sp:=⟨F.len,fun A outer s H args us vs Q E hr=>F.run A outer s H args us vs Q E (hr.mono h)⟩
theorem dM.imp {P:Program} {w:World} {K:PySem.W.Frag} {mg:Str→Option Value} {base:Heap} {CX:Jx} {k:Nat} {f:Addr} {fd:FuncData} {ps:List Str} {sp sp':Sp} (F:dM P w K mg base CX k f fd ps sp)
  (h:∀vs H Q E,sp' vs H Q E→sp vs H Q E):dM P w K mg base CX k f fd ps sp':=
 ⟨fun vs H Q E q=>F.len vs H Q E (h _ _ _ _ q),fun A outer s H args us vs Q E hr he hb hv hs=>F.run A outer s H args us vs Q E hr he hb hv (h _ _ _ _ hs)⟩
theorem DX.in1 {P:Program} {w:World} {K:PySem.W.Frag} {mg:Str→Option Value} {base:Heap} {A:Around} {outer:List Env} {s:Shared} {H:Hp} (e:DX P w K mg base A outer s H):
  DX P w K mg base A.in1 outer s H:=⟨e.frames,e.mod,e.bs,e.Pq,e.tW,e.Ud,e.hok,e.bare⟩
section
variable {X:Cx} {pins:List (Addr×Obj)} {σ:St} {H:Hp} {s s':Shared}
theorem Inv.env0 (I:Inv X pins σ H s):DX X.prog X.w X.K X.mg X.base X.A X.stack s H:=
 ⟨I.ok.frames,I.ok.mod,I.bs,Nat.le_trans I.ok.Pq I.sz,I.stack,I.GD,I.hok,I.bare⟩
theorem Inv.after {Q:VK} {u:Value} (I:Inv X pins σ H s) (h:CE X.stack X.prog X.w H s Q u s'):EP X pins σ Q u s':=by
 obtain ⟨v,H',os,bare,un,hok,r,q⟩:=h
 obtain ⟨hh,g,d,t,os'⟩:=s'
 obtain rfl:os'=s.os:=os
 exact ⟨v,H',I.call (h':=hh) (g':=g) (d':=d) (t':=t) (ch:=[]) un hok bare (fun b z=>absurd z (by simp)),r,q⟩
end
noncomputable def Ar (sp:Sp) (Pr:List V) (E:XK) (t:TA):TE:=fun σ H Q=>t σ H fun vs H1=>sp (vs++Pr) H1 Q E
noncomputable def Binds (K:PySem.W.Frag) (fd:FuncData) (ps:List Str) (ds:List Value):Prop:=
 ∀(s:Shared) (us:List Value),K.In s.heap→(us++ds).length=ps.length→BindsTo s fd ⟨us,[]⟩ (ps.zip (us++ds))
theorem Binds.all {K:PySem.W.Frag} {fd:FuncData} {ps:List Str} (h:∀us:List Value,us.length=ps.length→bindArgs fd ⟨us,[]⟩=pure (ps.zip us)):Binds K fd ps []:=fun s us _ hl=>by
 rw [List.append_nil] at hl ⊢
 exact .of_eq (h us hl)
noncomputable def Passes (CX:Jx) (X:Cx) (E:XK):Prop:=∀(pins:List (Addr×Obj)) (σ:St) (H:Hp) (s:Shared) (e:Value) (s':Shared),Inv X pins σ H s→CX X.stack H s E e s'→X.xe e s'
section
variable {X:Cx} {CX:Jx} {k:Nat} {f C:Addr} {fd:FuncData} {ps:List Str} {sp:Sp} {Pr:List V} {ds:List Value} {E:XK} {x m:Str} {p pos apos:Pos} {e o:Expr} {es:List Expr} {ta:TE} {t:TA}
theorem Lp {pins:List (Addr×Obj)} {σ:St} {H:Hp} {s:Shared} {Q:VK} {us:List Value} {vs:List V} (F:dM X.prog X.w X.K X.mg X.base CX k f fd ps sp) (hr:fH k X.A) (hb:Binds X.K fd ps ds) (hd:Vals Pr ds) (hx:Passes CX X E)
  (I:Inv X pins σ H s) (r:Vals vs us) (h:sp (vs++Pr) H Q E):wpAny (model X.prog X.w) X.A (call (.ref f) us) (EP X pins σ Q) X.xe s:=by
 have r2:Vals (vs++Pr) (us++ds):=r.append hd
 have hl:(us++ds).length=ps.length:=by rw [←r2.length]; exact F.len _ _ _ _ h
 refine wpAny_call (codeAny_mono (F.run X.A X.stack s H ⟨us,[]⟩ (us++ds) (vs++Pr) Q E hr I.env0 (hb s us I.pO hl) r2 h) fun r s' hq=>?_)
 cases r with
 | error e=>exact hx pins σ H s e s' I hq
 | ok fl=>
  cases fl with
  | ret u=>exact I.after hq
  | next=>exact False.elim hq
  | brk=>exact False.elim hq
  | cont=>exact False.elim hq
theorem Qg (F:dM X.prog X.w X.K X.mg X.base CX k f fd ps sp) (hr:fH k X.A) (hg:Gl X x) (hm:X.mg x=some (.ref f)) (hk:PySem.W.keepIn X.K (.ref f)=true) (hb:Binds X.K fd ps ds) (hd:Vals Pr ds) (hx:Passes CX X E)
  (ha:PA X (e::es) t) (hdb:(x==("__debug__":Str))=false:=by decide) (he:starEach (e::es) X.env=(false,eval e X.env)::starEach es X.env:=by rfl) (hpl:(backTo pos (starEach es X.env)).any (·.1)=false:=by rfl):
  PE X (.Call (.Name x p) (e::es) [] pos) (Ar sp Pr E t):=by
 intro pins s σ H Q I h
 refine wpAny_Call_Name_kw (GK I hg hm ?_ hdb)
 refine PySem.W.callWith_K (h₀:=X.base) I.ok.mod.Zr hk (cU (ha pos pins s σ H _ I h) fun us s1 ⟨vs,H1,I1,r,q⟩=>⟨I1.pO,?_⟩) he hpl
 exact Lp F hr hb hd hx I1 r q
theorem Lq (F:dM X.prog X.w X.K X.mg X.base CX k f fd ps sp) (hr:fH k X.A) (hg:Gl X x) (hm:X.mg x=some (.ref f)) (hk:PySem.W.keepIn X.K (.ref f)=true) (hb:Binds X.K fd ps ds) (hd:Vals Pr ds) (hx:Passes CX X E)
  (hdb:(x==("__debug__":Str))=false:=by decide):PE X (.Call (.Name x p) [] [] pos) (Ar sp Pr E UG):=by
 intro pins s σ H Q I h
 refine wpAny_Call_Name_kw (GK I hg hm ?_ hdb)
 exact PySem.W.callWith_K0 I.pO hk (Lp (us:=[]) F hr hb hd hx I .nil h)
structure Mk (K:PySem.W.Frag) (C f:Addr):Prop where
 makes:PySem.W.makesIn K C=true
 init:PySem.W.findIn K (.ref C) "__init__"=some (some (.ref f))
 fn:PySem.W.isFn K (.ref f)=true
 kp:PySem.W.keepIn K (.ref C)=true
end
section
variable {X:Cx} {CX:Jx} {k:Nat} {f C:Addr} {fd:FuncData} {ps ks:List Str} {sp:Sp} {E:XK} {x m:Str} {p pos apos kpos:Pos} {e o:Expr} {es:List Expr} {kws:List Keyword} {te ta:TE} {t tk:TA} {nm:Option Str}
structure ZV (K:PySem.W.Frag) (fd:FuncData) (ps ks:List Str) (g:List Value→List Value→List Value) (gV:List V→List V→List V):Prop where
 to:∀(s:Shared) (us ws:List Value),K.In s.heap→(g us ws).length=ps.length→BindsTo s fd ⟨us,ks.zip ws⟩ (ps.zip (g us ws))
 rel:∀{vs:List V} {us:List Value} {zs:List V} {ws:List Value},Vals vs us→Vals zs ws→Vals (gV vs zs) (g us ws)
variable {g:List Value→List Value→List Value} {gV:List V→List V→List V}
end
structure bY (N P:List Str) (sc:Scope):Prop where
 kind:sc.kind=.function
 co:sc.isCoroutine=false
 gen:sc.isGenerator=false
 nd:N.Nodup
 pre:N.take P.length=P
 par:∀x∈P,sc.names.lookup x=some .local∨sc.names.lookup x=some .cell
 UL:∀y∈sc.names,y.2≠.free
theorem xK {kindOf:Str→Option NameKind} {x:Str}:∀{binds:List (Str×Value)} {m:Str→Option Value},(∀v,(x,v)∉binds)→bindL kindOf binds m x=m x
 | [],_,_=>rfl
 | (n,v)::r,m,h=>by
  unfold bindL
  rw [xK fun w hw=>h w (List.mem_cons_of_mem _ hw)]
  split
  ·have:x≠n:=by rintro rfl; exact h v List.mem_cons_self
   simp [this]
  ·rfl
theorem xM {kindOf:Str→Option NameKind} {x:Str}:∀{binds:List (Str×Value)} {m:Str→Option Value},(∀v,(x,v)∉binds)→bindC kindOf binds m x=m x
 | [],_,_=>rfl
 | (n,v)::r,m,h=>by
  unfold bindC
  rw [xM fun w hw=>h w (List.mem_cons_of_mem _ hw)]
  split
  ·rfl
  ·have:x≠n:=by rintro rfl; exact h v List.mem_cons_self
   simp [this]
theorem xN {kindOf:Str→Option NameKind} {x:Str} {v:Value}:∀{P:List Str} {vs:List Value} {i:Nat} {m:Str→Option Value},P.Nodup→P[i]?=some x→vs[i]?=some v→kindOf x=some .local→
  bindL kindOf (P.zip vs) m x=some v
 | [],_,_,_,_,h,_,_=>by simp at h
 | _::_,[],_,_,_,_,h,_=>by simp at h
 | p::P,w::vs,0,m,nd,h1,h2,hk=>by
  simp at h1 h2; subst h1; subst h2
  show bindL kindOf ((p,w)::P.zip vs) m p=_
  unfold bindL
  rw [xK fun v hv=>(List.nodup_cons.mp nd).1 (List.of_mem_zip hv).1,if_pos hk]
  simp
 | p::P,w::vs,i + 1,m,nd,h1,h2,hk=>by
  show bindL kindOf ((p,w)::P.zip vs) m x=_
  unfold bindL
  exact xN (i:=i) (List.nodup_cons.mp nd).2 (by simpa using h1) (by simpa using h2) hk
theorem xO {kindOf:Str→Option NameKind} {x:Str} {v:Value}:∀{P:List Str} {vs:List Value} {i:Nat} {m:Str→Option Value},P.Nodup→P[i]?=some x→vs[i]?=some v→kindOf x≠some .local→
  bindC kindOf (P.zip vs) m x=some v
 | [],_,_,_,_,h,_,_=>by simp at h
 | _::_,[],_,_,_,_,h,_=>by simp at h
 | p::P,w::vs,0,m,nd,h1,h2,hk=>by
  simp at h1 h2; subst h1; subst h2
  show bindC kindOf ((p,w)::P.zip vs) m p=_
  unfold bindC
  rw [xM fun v hv=>(List.nodup_cons.mp nd).1 (List.of_mem_zip hv).1,if_neg hk]
  simp
 | p::P,w::vs,i + 1,m,nd,h1,h2,hk=>by
  show bindC kindOf ((p,w)::P.zip vs) m x=_
  unfold bindC
  exact xO (i:=i) (List.nodup_cons.mp nd).2 (by simpa using h1) (by simpa using h2) hk
noncomputable def start (N:List Str) (vs:List V):St:=vs.map some++List.replicate (N.length - vs.length) none
noncomputable def DY (CX:Jx) (P:Program) (w:World) (K:PySem.W.Frag) (mg:Str→Option Value) (base:Heap) (N:List Str) (qual:Str) (scope:Scope) (f:Addr) (cd:Value) (A:Around) (outer:List Env) (s:Shared) (H:Hp) (E:XK):Cx where
 prog:=P
 w:=w
 K:=K
 mg:=mg
 base:=base
 A:=A.deeper (envOfC qual scope s.heap.objs.size f cd)
 N:=N
 s₀:=s
 H₀:=H
 env:=envOfC qual scope s.heap.objs.size f cd
 outer:=outer
 stack:=envOfC qual scope s.heap.objs.size f cd::outer
 ex:=[]
 calm:=true
 fn:=fun _=>true
 pn:=[]
 xe:=fun e s'=>wpAny (model P w) (A.deeper (envOfC qual scope s.heap.objs.size f cd)) (leaving (envOfC qual scope s.heap.objs.size f cd) e) (fun _ s''=>CX outer H s E e s'') (fun e' s''=>CX outer H s E e' s'') s'
theorem Av {sc:Scope} {n:Nat} {x:Str} (h:sc.names.lookup x=some .cell):∃c,(cellsFrom n sc.names []).lookup x=some c:=by
 have q:=PySem.W.cellsFrom_some sc.names n [] (.inl h)
 exact Option.isSome_iff_exists.mp q
theorem Jy {CX:Jx} {P:Program} {w:World} {K:PySem.W.Frag} {mg:Str→Option Value} {base:Heap} {N ps:List Str} {qual:Str} {scope:Scope} {f:Addr} {cd:Value} {A:Around} {outer:List Env} {s s1:Shared} {H:Hp} {E:XK} {us:List Value} {vs:List V}
  (S:bY N ps scope) (hd:A.handled=none) (e0:DX P w K mg base A outer s H) (hl:vs.length=ps.length) (r:Vals vs us)
  (x:InCallC s s.heap.objs.size (bindL (envOfC qual scope s.heap.objs.size f cd).kindOf (ps.zip us) fun _=>none) (cellsFrom (s.heap.objs.size + 1) scope.names []) (bindC (envOfC qual scope s.heap.objs.size f cd).kindOf (ps.zip us) fun _=>none) s1):
  Inv (DY CX P w K mg base N qual scope f cd A outer s H E) [] (start N vs) H s1:=by
 have hpl:ps.length≤N.length:=by have:=congrArg List.length S.pre; rw [List.length_take] at this; omega
 obtain ⟨h1,tk,rfl,hk⟩:=x.done
 have Xd:∀b:Addr,b∉(DY CX P w K mg base N qual scope f cd A outer s H E).ex:=fun b z=>absurd (show b∈([]:List Addr) from z) (by simp)
 refine ⟨⟨e0.mod,S.kind,rfl,rfl,Nat.le_refl _,fun y z c h1 h2=>?_,fun y hy=>?_,fun y c _ h=>?_,fun _=>hd,Around.frames_deeper e0.frames,.inr ⟨rfl,rfl⟩,fun b z=>absurd z (Xd b),e0.bs,e0.Pq,fun b _ _=>Xd b,fun b z=>absurd z (Xd b),e0.tW,e0.Ud⟩,
  rfl,e0.bare,Un.kept hk,⟨_,x.toInCall.ns,fun i y v h1 h2 h3=>?_⟩,fun y c h=>⟨_,x.cell y c h⟩,e0.hok.fresh (Nat.le_refl _),fun y c h=>?_,fun p hp=>absurd (show p∈([]:List (Addr×Obj)) from hp) (by simp),e0.hok.kept hk,?_⟩
 ·exact name_of_addr x.apart (PySem.mem_of_lookup h1) (PySem.mem_of_lookup h2)
 ·have hy:scope.names.lookup y=some .cell∨scope.names.lookup y=some .free:=hy
  rcases hy with hy | hy
  ·exact Av hy
  ·exact absurd rfl (S.UL _ (PySem.mem_of_lookup hy))
 ·exact Nat.le_of_lt (x.above y c (PySem.mem_of_lookup h))
 ·have hi:i < vs.length:=by
   unfold start at h2
   by_cases hi:i < vs.length
   ·exact hi
   ·rw [List.getElem?_append_right (by simpa using hi)] at h2
    rw [List.getElem?_replicate] at h2
    split at h2 <;> cases h2
  have ha:vs[i]?=some v:=by
   unfold start at h2
   rw [List.getElem?_append_left (by simpa using hi),List.getElem?_map] at h2
   cases e:vs[i]? with
   | none=>rw [e] at h2; cases h2
   | some a=>rw [e] at h2; cases h2; rfl
  obtain ⟨u,hu,rv⟩:=r.get ha
  have hp:ps[i]?=some y:=by
   rw [←S.pre,List.getElem?_take_of_lt (by omega)]; exact h1
  have ndP:ps.Nodup:=by rw [←S.pre]; exact S.nd.sublist (List.take_sublist _ _)
  refine ⟨u,rv,?_⟩
  rcases S.par y (List.mem_of_getElem? hp) with k | k
  ·exact .inl ⟨k,xN ndP hp hu k⟩
  ·obtain ⟨c,e⟩:=Av (n:=s.heap.objs.size + 1) k
   refine .inr ⟨.inl k,c,e,?_⟩
   have q:=x.cell y c e
   rw [xO ndP hp hu (by show scope.names.lookup y≠_; rw [k]; decide)] at q
   exact q
 ·exact e0.hok.fresh (Nat.le_of_lt (x.above y c (PySem.mem_of_lookup h)))
 ·unfold start
  show _=N.length
  rw [List.length_append,List.length_map,List.length_replicate]
  omega
theorem Xe {CX:Jx} {P:Program} {w:World} {K:PySem.W.Frag} {mg:Str→Option Value} {base:Heap} {k:Nat} {f:Addr} {name qual:Str} {params:Arguments} {body:List Stmt} {scope:Scope} {dV kV doc pm cdv ct oc:Value} {an od:Option Addr}
  {osl:Array (Option Value)} {N ps:List Str} {sp:Sp} (lk:K.lookup f=some ⟨oc,od,.func (PySem.W.fnOf name qual params body scope dV kV doc pm an cdv ct),osl⟩) (hcd:PySem.W.codeIn K cdv qual=true) (S:bY N ps scope)
  (len:∀vs H Q E,sp vs H Q E→vs.length=ps.length)
  (hbody:∀(A:Around) (outer:List Env) (s:Shared) (H:Hp) (vs:List V) (Q:VK) (E:XK),fH k (A.deeper (envOfC qual scope s.heap.objs.size f cdv))→sp vs H Q E→
   ∃t,tX (DY CX P w K mg base N qual scope f cdv A outer s H E) body t∧t { nx:=fun _ H'=>Q .non H',rt:=Q } (start N vs) H):
  dM P w K mg base CX (k + 1) f (PySem.W.fnOf name qual params body scope dV kV doc pm an cdv ct) ps sp:=by
 refine ⟨len,fun A outer s H args us vs Q E hr e0 hb r hsp=>?_⟩
 have hl:=len _ _ _ _ hsp
 have KX:K.In s.heap:=e0.mod.Zr.keeps fun b o e=>(e0.bs b o e).1
 have lim:s.heap.NoLimit:=e0.mod.nolimit.keeps fun b o e=>(e0.bs b o e).1
 have hkind:∀y∈ps.zip us,scope.names.lookup y.1=some .local∨(scope.names.lookup y.1=some .cell∧((cellsFrom (s.heap.objs.size + 1) scope.names []).lookup y.1).isSome=true):=fun ⟨n,v⟩ hy=>by
  rcases S.par n (List.of_mem_zip hy).1 with q | q
  ·exact .inl q
  ·exact .inr ⟨q,PySem.W.cellsFrom_some _ _ _ (.inl q)⟩
 refine codeAny_call_function hr.depth (KX _ _ lk) rfl S.co S.gen rfl (PySem.W.codeRec_of KX hcd) (hb _ _ _ _ ?_)
 refine wpAny_newFunctionEnv_cells S.kind hkind fun env he s1 x=>?_
 subst he
 refine ⟨lim.keeps x.toInCall.keep,codeAny_func ?_⟩
 obtain ⟨t,ht,hq⟩:=hbody A outer s H vs Q E (hr.deeper _) hsp
 have I:Inv (DY CX P w K mg base N qual scope f cdv A outer s H E) [] (start N vs) H s1:=Jy S hr.hd e0 hl r x
 refine wpAny_mono (ht [] s1 (start N vs) H _ I hq) (fun fl s' hs=>?_) fun e s' hs=>hs
 have fin:∀{σ':St} {H':Hp} {v:V} {u:Value},Inv (DY CX P w K mg base N qual scope f cdv A outer s H E) [] σ' H' s'→RelV v u→Q v H'→CE outer P w H s Q u s':=
  fun {σ' H' v u} J rv q=>⟨v,H',J.os,J.bare,J.base,J.hok,rv,q⟩
 cases fl with
 | ret u=>
  obtain ⟨v,σ',H',J,rv,q⟩:=hs
  exact fin J rv q
 | next=>
  obtain ⟨σ',H',J,q⟩:=hs
  exact fin (v:=V.non) (u:=Value.none) J rfl q
 | brk=>
  obtain ⟨_,_,_,q⟩:=hs
  exact False.elim q
 | cont=>
  obtain ⟨_,_,_,q⟩:=hs
  exact False.elim q
end L2
namespace L2
open PySem PySem.Spec PyProof.Rows
section
variable {X:Cx} {x:Str} {p pos:Pos} {e:Expr} {es:List Expr} {t:TA} {id T:String} {r:List V→Hp→VK→Prop}
noncomputable def ZW (r:List V→Hp→VK→Prop) (t:TA):TE:=fun σ H Q=>t σ H fun vs H1=>r vs H1 Q
theorem pQ (hc:cD X (.builtin id) r) (hg:Gl X x) (hm:X.mg x=none) (hv:bootBuiltins x=some (.builtin id)) (ha:PA X (e::es) t) (hn:x≠"__name__":=by decide) (hdb:(x==("__debug__":Str))=false:=by decide)
  (he:starEach (e::es) X.env=(false,eval e X.env)::starEach es X.env:=by rfl) (hpl:(backTo pos (starEach es X.env)).any (·.1)=false:=by rfl):PE X (.Call (.Name x p) (e::es) [] pos) (ZW r t):=by
 intro pins s σ H Q I h
 refine wpAny_Call_Name_kw (jy I hg hm hv ?_ hn hdb)
 exact PyProof.Rows.callWith_builtin1 (cU (ha pos pins s σ H _ I h) fun us s1 ⟨vs,H1,I1,r1,q1⟩=>hc pins s1 σ H1 vs us Q I1 r1 q1) he hpl
theorem Jz (hc:cD X (.type T) r) (hg:Gl X x) (hm:X.mg x=none) (hv:bootBuiltins x=some (.type T)) (ha:PA X (e::es) t) (hn:x≠"__name__":=by decide) (hdb:(x==("__debug__":Str))=false:=by decide)
  (he:starEach (e::es) X.env=(false,eval e X.env)::starEach es X.env:=by rfl) (hpl:(backTo pos (starEach es X.env)).any (·.1)=false:=by rfl):PE X (.Call (.Name x p) (e::es) [] pos) (ZW r t):=by
 intro pins s σ H Q I h
 refine wpAny_Call_Name_kw (jy I hg hm hv ?_ hn hdb)
 exact PyProof.Rows.callWith_type1 (cU (ha pos pins s σ H _ I h) fun us s1 ⟨vs,H1,I1,r1,q1⟩=>hc pins s1 σ H1 vs us Q I1 r1 q1) he hpl
end
end L2
namespace HT
open PySem PyProof.Rows
section
open PySem.SeqAt
open PySem.AutoSeq1 (wpAny_loadPart')
open PySem.MeetsSeq PySem.MeetsSeq2 PySem.MeetsSeq3
end
section
variable {prog:Program} {w:World} {A:Around} {E:Value→Shared→Prop} {s:Shared}
theorem Qh {t b:Addr} {vs ws:List Value} {Q:Value→Shared→Prop} (ht:IsTup s.heap t vs.toArray) (hb:IsTup s.heap b ws.toArray) (hv:vs≠[])
  (h1:ws=[]→Q (.ref t) s) (h2:ws≠[]→Q (.ref s.heap.objs.size) { s with heap:=s.heap.push { cls:=.type "tuple",data:=.seq (vs++ws).toArray } })
  (hsz:vs.length + ws.length≤sizeLine):wpAny (model prog w) A (binaryOp .Add (.ref t) (.ref b)) Q E s:=by
 obtain ⟨⟨cls,dd,data,sl⟩,ho,hc,n,hd⟩:=id ht
 obtain ⟨⟨cls2,dd2,data2,sl2⟩,ho2,hc2,n2,hd2⟩:=id hb
 simp only at hc hd hc2 hd2
 subst hc hd hc2 hd2
 have e:vs.toArray++ws.toArray=(vs++ws).toArray:=by simp
 by_cases hw:ws=[]
 ·exact concat_meets ⟨_,ho,rfl⟩ ⟨_,ho2,rfl⟩ noFill_tuple_add seq_tuple_add PySem.F.slot_tuple_add PySem.F.entry_tuple_add (PySem.F.args_tuple_add_2 _ _)
   (tuple_addW1 t b vs.toArray ws.toArray n n2 dd dd2 sl sl2 (by simpa using hv) (by simp [hw])) ⟨ho,ho2,h1 hw⟩
 ·refine concat_meets ⟨_,ho,rfl⟩ ⟨_,ho2,rfl⟩ noFill_tuple_add seq_tuple_add PySem.F.slot_tuple_add PySem.F.entry_tuple_add (PySem.F.args_tuple_add_2 _ _)
   (tuple_addW2 t b vs.toArray ws.toArray n n2 dd dd2 sl sl2 (by simpa using hv) (by simpa using hw) (by rw [List.size_toArray,List.size_toArray]; exact hsz)) ⟨ho,ho2,?_⟩
  rw [e]
  exact h2 hw
noncomputable def eU (n d:Nat):Option Int→Nat
 | none=>d
 | some v=>if v < 0 then (v + (n:Int)).toNat else min v.toNat n
theorem UT (n d:Nat) (hd:d≤n) (o:Option Int):eU n d o≤n:=by
 cases o with
 | none=>exact hd
 | some v=>
  show (if v < 0 then (v + (n:Int)).toNat else min v.toNat n)≤n
  by_cases hv:v < 0
  ·rw [if_pos hv]; omega
  ·rw [if_neg hv]; exact Nat.min_le_right _ _
theorem GX (v:Int) (n d:Nat):(if v < 0 then max (v + (n:Int)) 0 else min v (n:Int))=((eU n d (some v):Nat):Int):=by
 show (if v < 0 then max (v + (n:Int)) 0 else min v (n:Int))=(((if v < 0 then (v + (n:Int)).toNat else min v.toNat n):Nat):Int)
 by_cases hv:v < 0
 ·simp only [if_pos hv]; omega
 ·simp only [if_neg hv]; omega
theorem Ea (lo hi:Option Int) (n:Nat):Builtin.Slice.sliceAdjust lo hi 1 (n:Int)=(((eU n 0 lo:Nat):Int),((eU n n hi:Nat):Int)):=by
 have h1:¬((1:Int) < 0):=by omega
 unfold Builtin.Slice.sliceAdjust
 simp only [h1,if_false]
 refine Prod.ext ?_ ?_
 ·cases lo with
  | none=>rfl
  | some v=>exact GX v n 0
 ·cases hi with
  | none=>rfl
  | some v=>exact GX v n n
theorem Eb (i j:Nat):Builtin.Slice.slicePlaces (i:Int) (j:Int) 1=j - i:=by
 unfold Builtin.Slice.slicePlaces
 have h1:(1:Int) > 0:=by omega
 simp only [h1,if_true,Int.ediv_one]
 split <;> omega
theorem uz {v:Value} {o:Option Int} {Q:Option Int→Shared→Prop} (p:IsPart v o) (h:Q o s):wpAny (model prog w) A (Builtin.Slice.slicePartIndex v) Q E s:=by
 cases p with
 | none=>exact slicePart_none h
 | int i t=>exact slicePart_int h
theorem jQ {sl:Addr} {vl vu:Value} {lo hi:Option Int} {n:Nat} {Q:Int×Int×Nat→Shared→Prop} (hs:s.heap.IsSliceOf sl vl vu .none) (pl:IsPart vl lo) (pu:IsPart vu hi)
  (h:Q (((eU n 0 lo:Nat):Int),1,eU n n hi - eU n 0 lo) s):wpAny (model prog w) A (Builtin.Slice.sliceApplied (.ref sl) (pure (n:Int))) Q E s:=by
 obtain ⟨os,hos,hcs,hds⟩:=id hs
 unfold Builtin.Slice.sliceApplied Builtin.Slice.sliceFields
 refine wpAny_bind (wpAny_bind (wpAny_field hos hds (x:=vl) rfl (wpAny_bind (wpAny_field hos hds (x:=vu) rfl (wpAny_bind (wpAny_field hos hds (x:=.none) rfl (wpAny_pure ?_)))))))
 refine wpAny_bind (slicePart_none ?_)
 show wpAny _ _ (if ((1:Int)==0)=true then _ else _) _ _ s
 rw [if_neg (by decide)]
 refine wpAny_bind (uz pl (wpAny_bind (uz pu (wpAny_bind (wpAny_pure ?_)))))
 show wpAny _ _ (match Builtin.Slice.sliceAdjust lo hi 1 (n:Int) with | (lo,hi)=>pure (lo,(1:Int),Builtin.Slice.slicePlaces lo hi 1)) _ _ s
 rw [Ea lo hi n]
 show wpAny _ _ (pure (((eU n 0 lo:Nat):Int),(1:Int),Builtin.Slice.slicePlaces ((eU n 0 lo:Nat):Int) ((eU n n hi:Nat):Int) 1)) _ _ s
 rw [Eb]
 exact wpAny_pure h
theorem Lr (xs:Array Value) (i k:Nat):((List.range k).filterMap fun (m:Nat)=>xs[((i:Int) + (m:Int) * 1).toNat]?).toArray=((xs.toList.drop i).take k).toArray:=by
 have e:(fun (m:Nat)=>xs[((i:Int) + (m:Int) * 1).toNat]?)=fun m=>xs[i + m]?:=by
  funext m
  have:((i:Int) + (m:Int) * 1).toNat=i + m:=by omega
  rw [this]
 rw [e]
 have:=pick_run xs i k
 rw [List.filterMap_map] at this
 have e2:((fun x=>xs[x]?) ∘ fun x=>i + x)=fun m=>xs[i + m]?:=rfl
 rw [e2] at this
 rw [this]
theorem pR {t sl:Addr} {items:Array Value} {vl vu:Value} {lo hi:Option Int} {Q:Value→Shared→Prop} (ht:IsTup s.heap t items) (hs:s.heap.IsSliceOf sl vl vu .none) (pl:IsPart vl lo) (pu:IsPart vu hi)
  (hw:¬(eU items.size 0 lo=0∧eU items.size items.size hi=items.size))
  (h:Q (.ref s.heap.objs.size) { s with heap:=s.heap.push { cls:=.type "tuple",data:=.seq ((items.toList.drop (eU items.size 0 lo)).take (eU items.size items.size hi - eU items.size 0 lo)).toArray } })
  (hsz:items.size≤sizeLine):wpAny (model prog w) A (getItem (.ref t) (.ref sl)) Q E s:=by
 have GZ:sizeOk (.seq ((items.toList.drop (eU items.size 0 lo)).take (eU items.size items.size hi - eU items.size 0 lo)).toArray):=by
  show ((items.toList.drop (eU items.size 0 lo)).take (eU items.size items.size hi - eU items.size 0 lo)).toArray.size≤sizeLine
  rw [List.size_toArray,List.length_take,List.length_drop,Array.length_toList]
  omega
 have hj:eU items.size items.size hi≤items.size:=UT _ _ (Nat.le_refl _) hi
 obtain ⟨os,hos,hcs,hds⟩:=id hs
 have hTs:s.TypeIs (.ref sl) "slice":=⟨os,hos,hcs⟩
 unfold getItem
 try with_reducible refine wpAny_holding ?_
 first | refine wpAny_bind (wpAny_pure ?_) | skip
 refine wpAny_bind (wpAny_sequenceKey ht.typeIs (by decide) ?_)
 refine wpAny_bind (wpAny_callSpecial?_slot (name:=Str.ofString "__getitem__") ht.typeIs PyProof.Rows.slot_tuple_getitem
  (wpAny_call_entry PyProof.Rows.slot_tuple_getitem ht.typeIs entry_tuple_getitem ?_ (args_tuple_getitem _ _)))
 show wpAny _ _ (Builtin.Tuple.tupleItemsOf (.ref t) >>= _) _ _ s
 refine wpAny_bind (tupleItemsOf_ ht ?_)
 refine wpAny_bind (wpAny_typeOf hTs ?_)
 rw [if_pos (by decide)]
 refine wpAny_bind (jQ hs pl pu ?_)
 have hno:¬((((eU items.size 0 lo:Nat):Int)==0&&(1:Int)==1&&(eU items.size items.size hi - eU items.size 0 lo)==items.size)=true):=by
  intro q
  rw [Bool.and_eq_true,Bool.and_eq_true] at q
  have q1:((eU items.size 0 lo:Nat):Int)=0:=eq_of_beq q.1.1
  have q2:eU items.size items.size hi - eU items.size 0 lo=items.size:=eq_of_beq q.2
  exact hw ⟨by omega,by omega⟩
 show wpAny _ _ (if (((eU items.size 0 lo:Nat):Int)==0&&(1:Int)==1&&(eU items.size items.size hi - eU items.size 0 lo)==items.size)=true then _ else _) _ _ s
 rw [if_neg hno,Lr]
 first
  | exact wpAny_bind (m:=Builtin.Tuple.tupleExact _) (wpAny_newObj_type (wpAny_pure ⟨_,rfl,wpAny_pure h⟩) GZ)
  | exact wpAny_bind (m:=Builtin.Tuple.tupleExact _) (wpAny_newObj_type (wpAny_bind (wpAny_pure (wpAny_pure ⟨_,rfl,wpAny_pure h⟩))) GZ)
  | exact wpAny_bind (wpAny_bind (m:=Builtin.Tuple.tupleExact _) (wpAny_newObj_type (wpAny_pure (wpAny_pure ⟨_,rfl,wpAny_pure h⟩)) GZ))
  | exact wpAny_bind (wpAny_bind (m:=Builtin.Tuple.tupleExact _) (wpAny_newObj_type (wpAny_pure ⟨_,rfl,wpAny_pure h⟩) GZ))
end
end HT
namespace L2
open PySem PySem.Spec PyProof.Rows
noncomputable abbrev TO:=St→Hp→(Option Int→Hp→Prop)→Prop
noncomputable def PO (X:Cx) (e:Option Expr) (t:TO):Prop:=
 ∀(pins:List (Addr×Obj)) (s:Shared) (σ:St) (H:Hp) (Q:Option Int→Hp→Prop),Inv X pins σ H s→t σ H Q→
  wpAny (model X.prog X.w) X.A (evalPart e X.env) (fun u s'=>∃o H',Inv X pins σ H' s'∧IsPart u o∧Q o H') X.xe s
noncomputable def Qi:TO:=fun _ H Q=>Q none H
noncomputable def Xf (t:TE):TO:=fun σ H Q=>t σ H fun x H1=>∃i,x=.int i∧Q (some i) H1
theorem intsAre_of {ns:List Int}:∀{us:List Value},Vals (ns.map V.int) us→IntsAre us ns:=by
 induction ns with
 | nil=>intro us r; rw [List.map_nil] at r; cases r; exact .nil
 | cons n ns ih=>
  intro us r
  rw [List.map_cons] at r
  cases r with
  | cons r1 r2=>
   obtain ⟨t,e⟩:=r1
   subst e
   exact .cons n t (ih r2)
section
variable {X:Cx} {e:Expr} {te:TE} {lo hi:Option Expr} {tl th:TO} {pos p2:Pos}
theorem Qj:PO X none Qi:=by
 intro pins s σ H Q I h
 rw [evalPart_none]
 exact wpAny_pure ⟨none,H,I,.none,h⟩
theorem Qk (h:PE X e te):PO X (some e) (Xf te):=by
 intro pins s σ H Q I hw
 rw [evalPart_some]
 refine cU (h pins s σ H _ I hw) fun u s1 aV=>?_
 obtain ⟨x,H1,I1,r1,q1⟩:=aV
 obtain ⟨i,rfl,q⟩:=q1
 obtain ⟨t,rfl⟩:=r1
 exact ⟨some i,H1,I1,.int i t,q⟩
noncomputable def Ql (X:Cx) (r:V→Option Int→Option Int→Hp→VK→Prop):Prop:=
 ∀(pins:List (Addr×Obj)) (s:Shared) (σ:St) (H:Hp) (x:V) (v vl vu:Value) (lo hi:Option Int) (sl:Addr) (Q:VK),Inv X pins σ H s→RelV x v→s.heap.IsSliceOf sl vl vu .none→IsPart vl lo→IsPart vu hi→r x lo hi H Q→
  ∃T id,typeLookup (.type T) "__getitem__"=pure (some (.builtin id))∧s.TypeIs v T∧wpAny (model X.prog X.w) X.A (getItem v (.ref sl)) (EP X pins σ Q) X.xe s
theorem Ql.or {r r':V→Option Int→Option Int→Hp→VK→Prop} (h:Ql X r) (h':Ql X r'):Ql X (fun x lo hi H Q=>r x lo hi H Q∨r' x lo hi H Q):=by
 intro pins s σ H x v vl vu lo hi sl Q I rx hs pl pu q
 rcases q with q | q
 ·exact h pins s σ H x v vl vu lo hi sl Q I rx hs pl pu q
 ·exact h' pins s σ H x v vl vu lo hi sl Q I rx hs pl pu q
noncomputable def tSl (r:V→Option Int→Option Int→Hp→VK→Prop) (te:TE) (tl th:TO):TE:=fun σ H Q=>te σ H fun x H1=>tl σ H1 fun l H2=>th σ H2 fun u H3=>r x l u H3 Q
theorem Ls {r:V→Option Int→Option Int→Hp→VK→Prop} (hr:Ql X r) (he:PE X e te) (hl:PO X lo tl) (hu:PO X hi th):PE X (.Subscript e (.Slice lo hi none p2) pos) (tSl r te tl th):=by
 intro pins s σ H Q I h
 refine Subscript_ (cU (he pins s σ H _ I h) fun v s1 aV=>?_)
 obtain ⟨x,H1,I1,r1,q1⟩:=aV
 refine wpAny_Slice (cU (hl pins s1 σ H1 _ I1 q1) fun vl s2 ⟨l,H2,I2,pl,q2⟩=>cU (hu pins s2 σ H2 _ I2 q2) fun vu s3 aV=>?_)
 obtain ⟨u,H3,I3,pu,q3⟩:=aV
 rw [evalPart_none]
 refine wpAny_pure ?_
 have I4:Inv X pins σ H3 { s3 with heap:=s3.heap.push { cls:=.type "slice",data:=.fields #[vl,vu,.none] } }:=I3.kept (t':=s3.toks) fun b ob q=>Heap.get?_push_of_some _ q
 obtain ⟨T,id,hT,ht,hg⟩:=hr pins { s3 with heap:=s3.heap.push { cls:=.type "slice",data:=.fields #[vl,vu,.none] } } σ H3 x v vl vu l u s3.heap.objs.size Q I4 r1 (Heap.IsSliceOf.new ..) pl pu q3
 show wpAny (model X.prog X.w) X.A (subscriptTail e (.Slice lo hi none p2) v (.ref s3.heap.objs.size)) (EP X pins σ Q) X.xe { s3 with heap:=s3.heap.push { cls:=.type "slice",data:=.fields #[vl,vu,.none] } }
 exact tail_any (ops:=[.ref s3.heap.objs.size,v]) ht hT hg (by with_unfolding_all rfl)
noncomputable def uA (xs:List V) (lo hi:Option Int):List V:=(xs.drop (HT.eU xs.length 0 lo)).take (HT.eU xs.length xs.length hi - HT.eU xs.length 0 lo)
theorem sV (xs:List V) (lo hi:Option Int):(uA xs lo hi).length≤xs.length:=by
 unfold uA
 rw [List.length_take,List.length_drop]
 omega
noncomputable def ZX (K:PySem.W.Frag):V→Option Int→Option Int→Hp→VK→Prop:=fun x lo hi H Q=>∃a xs,x=.ref a∧eX K H a xs∧
 ¬(HT.eU xs.length 0 lo=0∧HT.eU xs.length xs.length hi=xs.length)∧∀p,H p=none→Q (.ref p) (upd H p (.tup (uA xs lo hi)))
theorem UW:Ql X (ZX X.K):=by
 intro pins s σ H x v vl vu lo hi sl Q I rx hs pl pu h
 obtain ⟨a,xs,rfl,hx,hw,q⟩:=h
 cases rx
 obtain ⟨its,r,ht,hz⟩:=I.tuple hx
 have hlen:its.toArray.size=xs.length:=by rw [List.size_toArray]; exact r.length.symm
 refine ⟨"tuple",_,PyProof.Rows.slot_tuple_getitem.lookup,ht.typeIs,?_⟩
 refine HT.pR ht hs pl pu (by rw [hlen]; exact hw) ?_ (by rw [hlen]; exact hz)
 rw [hlen]
 refine ⟨.ref s.heap.objs.size,_,I.laid (t':=s.toks) (o:=.tup (uA xs lo hi)) (fun b ob q=>Heap.get?_push_of_some _ q) (Nat.le_refl _) ?_,rfl,q _ (I.hok.fresh (Nat.le_refl _))⟩
 exact ⟨Nat.le_trans (sV xs lo hi) hz,_,(r.drop (HT.eU xs.length 0 lo)).take (HT.eU xs.length xs.length hi - HT.eU xs.length 0 lo),IsTup.new _ _⟩
noncomputable def Sx (K:PySem.W.Frag):R2:=fun x y H Q=>∃a b xs ys,x=.ref a∧y=.ref b∧eX K H a xs∧eX K H b ys∧xs≠[]∧xs.length + ys.length≤sizeLine∧
 (ys=[]→Q (.ref a) H)∧(ys≠[]→∀p,H p=none→Q (.ref p) (upd H p (.tup (xs++ys))))
theorem Vals.za {xs:List V} {us:List Value} (r:Vals xs us):us=[] ↔ xs=[]:=by
 cases r with
 | nil=>simp
 | cons _ _=>simp
theorem Qm:gW X (binaryOp .Add) (Sx X.K):=by
 intro pins s σ H x y v u Q I rx ry h
 obtain ⟨a,b,xs,ys,rfl,rfl,ha,hb,hx,hz,q1,q2⟩:=h
 cases rx
 cases ry
 obtain ⟨its,r1,p1,_⟩:=I.tuple ha
 obtain ⟨its2,r2,p2,_⟩:=I.tuple hb
 refine HT.Qh p1 p2 (fun z=>hx (r1.za.mp z)) (fun z=>⟨.ref a,H,I,rfl,q1 (r2.za.mp z)⟩) (fun z=>?_) (by rw [←r1.length,←r2.length]; exact hz)
 refine ⟨.ref s.heap.objs.size,_,I.laid (t':=s.toks) (o:=.tup (xs++ys)) (fun b ob q=>Heap.get?_push_of_some _ q) (Nat.le_refl _) ?_,rfl,q2 (fun w=>z (r2.za.mpr w)) _ (I.hok.fresh (Nat.le_refl _))⟩
 exact ⟨by rw [List.length_append]; exact hz,_,r1.append r2,IsTup.new _ _⟩
end
end L2
namespace L2
open PySem PySem.Spec PyProof.Rows
noncomputable def Ec (n:Nat) (i:Int):Option Nat:=if 0≤i then (if i < n then some i.toNat else none) else if -(n:Int)≤i then some (i + n).toNat else none
noncomputable def jB {α:Type} (xs:List α) (i:Int):Option α:=(Ec xs.length i).bind fun j=>xs[j]?
theorem G3 {n:Nat} {i:Int} {j:Nat} (h:Ec n i=some j):seqIndex? i n=some j∧j < n∧-(n:Int)≤i∧i < n:=by
 unfold Ec at h
 by_cases h0:0≤i
 ·rw [if_pos h0] at h
  by_cases h1:i < n
  ·rw [if_pos h1] at h
   have e:i.toNat=j:=Option.some.inj h
   exact ⟨by rw [seqIndex_of h0 h1,e],by omega,by omega,h1⟩
  ·rw [if_neg h1] at h; cases h
 ·rw [if_neg h0] at h
  by_cases h1:-(n:Int)≤i
  ·rw [if_pos h1] at h
   have e:(i + n).toNat=j:=Option.some.inj h
   exact ⟨by rw [seqIndex_neg (by omega) h1,e],by omega,h1,by omega⟩
  ·rw [if_neg h1] at h; cases h
theorem zb {α:Type} {xs:List α} {i:Int} {v:α} (h:jB xs i=some v):∃j,seqIndex? i xs.length=some j∧xs[j]?=some v∧j < xs.length∧-(xs.length:Int)≤i∧i < xs.length:=by
 unfold jB at h
 cases e:Ec xs.length i with
 | none=>rw [e] at h; cases h
 | some j=>
  rw [e] at h
  obtain ⟨h1,h2,h3,h4⟩:=G3 e
  exact ⟨j,h1,h,h2,h3,h4⟩
theorem iD {α:Type} {xs:List α} {j:Nat} {v:α} (h:xs[j]?=some v):jB xs (j:Int)=some v:=by
 have hj:j < xs.length:=(List.getElem?_eq_some_iff.mp h).1
 have e:Ec xs.length (j:Int)=some j:=by
  unfold Ec
  rw [if_pos (by omega),if_pos (by omega)]; simp
 unfold jB; rw [e]; exact h
noncomputable def t7 (b:Expr):Prop:=∀o i,subscripted b false o i=operate [o,i] (getItem o i)
noncomputable def KH (X:Cx) (r:R2):Prop:=
 ∀(value slice:Expr) (pins:List (Addr×Obj)) (s:Shared) (σ:St) (H:Hp) (x y:V) (v u:Value) (Q:VK),Inv X pins σ H s→RelV x v→RelV y u→r x y H Q→
  subscripted slice false v u=operate [v,u] (getItem v u)→wpAny (model X.prog X.w) X.A (subscriptTail value slice v u) (EP X pins σ Q) X.xe s
noncomputable def Wq (X:Cx) (id:String) (r:V→List V→Hp→VK→Prop):Prop:=
 ∀(pins:List (Addr×Obj)) (s:Shared) (σ:St) (H:Hp) (x:V) (xs:List V) (v:Value) (us:List Value) (Q:VK),Inv X pins σ H s→RelV x v→Vals xs us→r x xs H Q→
  wpAny (model X.prog X.w) X.A (call (.builtin id) (v::us)) (EP X pins σ Q) X.xe s
section
variable {X:Cx} {a b:Expr} {ta tb:TE} {pos:Pos}
theorem KH.or {r r':R2} (h:KH X r) (h':KH X r'):KH X (fun x y H Q=>r x y H Q∨r' x y H Q):=by
 intro value slice pins s σ H x y v u Q I rx ry q hs
 rcases q with q | q
 ·exact h value slice pins s σ H x y v u Q I rx ry q hs
 ·exact h' value slice pins s σ H x y v u Q I rx ry q hs
theorem Wq.or {id:String} {r r':V→List V→Hp→VK→Prop} (h:Wq X id r) (h':Wq X id r'):Wq X id (fun x xs H Q=>r x xs H Q∨r' x xs H Q):=by
 intro pins s σ H x xs v us Q I rx rs q
 rcases q with q | q
 ·exact h pins s σ H x xs v us Q I rx rs q
 ·exact h' pins s σ H x xs v us Q I rx rs q
theorem Lw {r:R2} (hr:KH X r) (ha:PE X a ta) (hb:PE X b tb) (hs:t7 b):PE X (.Subscript a b pos) (W3 r ta tb):=by
 intro pins s σ H Q I h
 exact Subscript_ (Ut ha hb I h fun v u s2 x y H2 I2 rx ry q=>hr a b pins s2 σ H2 x y v u Q I2 rx ry q (hs _ _))
noncomputable def Xg (K:PySem.W.Frag):R2:=fun x y H Q=>∃p xs i v,x=.ref p∧y=.int i∧cO K H p xs∧jB xs i=some v∧Q v H
noncomputable def Xh (K:PySem.W.Frag):R2:=fun x y H Q=>∃p xs i v,x=.ref p∧y=.int i∧eX K H p xs∧jB xs i=some v∧Q v H
noncomputable def Xi:R2:=fun x y H Q=>∃z i c,x=.str z∧y=.int i∧z.length≤sizeLine∧jB z.cps.toList i=some c∧Q (.str ⟨#[c]⟩) H
theorem zc:KH X (Xg X.K):=by
 intro value slice pins s σ H x y v u Q I rx ry h hs
 obtain ⟨p,xs,i,z,rfl,rfl,hq,he,q⟩:=h
 cases rx
 obtain ⟨t,rfl⟩:=ry
 obtain ⟨its,r,pl,hz⟩:=I.list hq
 obtain ⟨j,h1,h2,h3,h4,h5⟩:=zb he
 obtain ⟨w,ew,rw'⟩:=r.get h2
 have hl:=r.length
 have hn:=oW
 have fin:EP X pins σ Q w s:=⟨z,H,I,rw',q⟩
 by_cases h0:0≤i
 ·have hj:i.toNat=j:=by
   rw [seqIndex_of h0 h5] at h1
   exact Option.some.inj h1
  exact item_listR pl.isList h0 (by omega) (by rw [hj]; simpa using ew) fin hs
 ·have hj:(i + (its.toArray.size:Int)).toNat=j:=by
   rw [seqIndex_neg (by omega) h4] at h1
   rw [List.size_toArray,←hl]
   exact Option.some.inj h1
  exact subscriptTail_builtinR (x:=w) pl.isList.typeIs slot_list_getitem.lookup
   (wpAny_getItem_list_neg (Q:=fun r s'=>r=w∧EP X pins σ Q r s') pl.isList (by omega) (by rw [List.size_toArray] <;> omega) (by omega) (by rw [hj]; simpa using ew) ⟨rfl,fin⟩) hs
theorem U0:KH X (Xh X.K):=by
 intro value slice pins s σ H x y v u Q I rx ry h hs
 obtain ⟨p,xs,i,z,rfl,rfl,hq,he,q⟩:=h
 cases rx
 obtain ⟨t,rfl⟩:=ry
 obtain ⟨its,r,pl,hz⟩:=I.tuple hq
 obtain ⟨j,h1,h2,h3,h4,h5⟩:=zb he
 obtain ⟨w,ew,rw'⟩:=r.get h2
 have hl:=r.length
 have hn:=oW
 have fin:EP X pins σ Q w s:=⟨z,H,I,rw',q⟩
 exact subscriptTail_builtinR (x:=w) pl.typeIs slot_tuple_getitem.lookup
  (getItem_tuple (j:=j) (Q:=fun r s'=>r=w∧EP X pins σ Q r s') pl (by omega) (by omega) (by rw [List.size_toArray,←hl]; exact h1) (by simpa using ew) ⟨rfl,fin⟩) hs
theorem U3:KH X Xi:=by
 intro value slice pins s σ H x y v u Q I rx ry h hs
 obtain ⟨z,i,c,rfl,rfl,hz,he,q⟩:=h
 obtain ⟨t,rfl⟩:=rx
 obtain ⟨t',rfl⟩:=ry
 obtain ⟨j,h1,h2,h3,h4,h5⟩:=zb he
 have hl:z.cps.toList.length=z.length:=by simp [Str.length]
 rw [hl] at h1 h4 h5
 have hn:=oW
 exact tail_any (typeIs_str s z t) slot_str_getitem.lookup (getItem_str (c:=c) (by
  have e1:decide (i < -(2 ^ 63:Int))=false:=decide_eq_false (by omega)
  have e2:decide (i ≥ 2 ^ 63)=false:=decide_eq_false (by omega)
  rw [e1,e2,Bool.or_false]) (by rw [h1]; simpa using h2) ⟨.str ⟨#[c]⟩,H,I.tok _,⟨_,rfl⟩,q⟩) hs
noncomputable def rIx (K:PySem.W.Frag):R2:=fun x y H Q=>Xg K x y H Q∨Xh K x y H Q∨Xi x y H Q
theorem U4:KH X (rIx X.K):=zc.or (U0.or U3)
theorem Ed (its:List Value) (n j:Nat) (u:Value):Obj.mapSeq (·.setIfInBounds j u) { cls:=.type "list",data:=.seq its.toArray n }={ cls:=.type "list",data:=.seq (its.set j u).toArray n }:=by
 simp [Obj.mapSeq]
theorem Inv.lst {pins:List (Addr×Obj)} {σ:St} {H:Hp} {s:Shared} {p:Addr} {xs:List V} (I:Inv X pins σ H s) (h:H p=some (.lst xs)):
  ∃(its:List Value) (n:Nat),Vals xs its∧s.heap.get? p=some { cls:=.type "list",data:=.seq its.toArray n }∧xs.length≤sizeLine:=by
 obtain ⟨z,its,n,r,e⟩:=I.hok p _ h
 exact ⟨its,n,r,e,z⟩
theorem Inv.U5 {pins:List (Addr×Obj)} {σ:St} {H:Hp} {s:Shared} {p:Addr} {xs ys:List V} {its its':List Value} {n n':Nat} {f:Obj→Obj} (I:Inv X pins σ H s) (h:H p=some (.lst xs))
  (ho:s.heap.get? p=some { cls:=.type "list",data:=.seq its.toArray n }) (hf:f { cls:=.type "list",data:=.seq its.toArray n }={ cls:=.type "list",data:=.seq its'.toArray n' }) (r:Vals ys its') (hz:ys.length≤sizeLine) (t:Nat):
  Inv X pins σ (upd H p (.lst ys)) { s with heap:=s.heap.update p f,toks:=t }:=by
 have e:(s.heap.update p f).get? p=some { cls:=.type "list",data:=.seq its'.toArray n' }:=by
  rw [Heap.get?_update_self f ho (by rw [hf] <;> rfl),hf]
 refine I.write (x:=p) (e:=p) (by rw [h]; trivial) (.inl rfl) (fun b u hb q=>(Heap.get?_update_other _ _ (Ne.symm hb)).trans q) ⟨_,e⟩ ?_
 exact ⟨hz,its',n',r,e⟩
noncomputable def Sy:V→V→V→Hp→(Hp→Prop)→Prop:=fun o i v H Q=>∃p xs k j,o=.ref p∧i=.int k∧H p=some (.lst xs)∧Ec xs.length k=some j∧Q (upd H p (.lst (xs.set j v)))
theorem set_list:yR X Sy:=by
 intro pins s σ H o i v ov iv u Q I ro ri rv h
 obtain ⟨p,xs,k,j,rfl,rfl,hp,hj,q⟩:=h
 cases ro
 obtain ⟨t,rfl⟩:=ri
 obtain ⟨its,n,r,ho,hz⟩:=I.lst hp
 obtain ⟨h1,h2,h3,h4⟩:=G3 hj
 have hl:=r.length
 have hn:=oW
 have I':Inv X pins σ (upd H p (.lst (xs.set j v))) { s with heap:=s.heap.update p (Obj.mapSeq (·.setIfInBounds j u)) }:=
  I.U5 hp ho (Ed its n j u) (r.set rv j) (by rw [List.length_set]; exact hz) s.toks
 by_cases h0:0≤k
 ·have hk:k.toNat=j:=by
   rw [seqIndex_of h0 h4] at h1
   exact Option.some.inj h1
  exact PySem.W.ki_setAt ho h0 (by omega) (by rw [List.size_toArray,←hl]; exact h4) (by rw [hk]; exact ⟨_,I',q⟩)
 ·have hk:(k + (its.toArray.size:Int)).toNat=j:=by
   rw [seqIndex_neg (by omega) h3] at h1
   rw [List.size_toArray,←hl]
   exact Option.some.inj h1
  exact PySem.W.ki_setBack ho (by omega) (by rw [List.size_toArray,←hl]; exact h3) (by omega) (by rw [hk]; exact ⟨_,I',q⟩)
theorem zf (lo hi:Option Int) (n:Nat):(sliceBounds lo hi none n).1=((HT.eU n 0 lo:Nat):Int)∧(sliceBounds lo hi none n).2.1=((HT.eU n n hi:Nat):Int)∧(sliceBounds lo hi none n).2.2=1:=by
 refine ⟨?_,?_,rfl⟩
 ·cases lo with
  | none=>simp [sliceBounds,HT.eU]
  | some i=>
   simp only [sliceBounds,HT.eU,Option.getD_none,show (1:Int) > 0 by decide,if_true]
   by_cases h:i < 0
   ·simp only [h,if_true] <;> omega
   ·simp only [h,if_false] <;> omega
 ·cases hi with
  | none=>simp [sliceBounds,HT.eU]
  | some i=>
   simp only [sliceBounds,HT.eU,Option.getD_none,show (1:Int) > 0 by decide,if_true]
   by_cases h:i < 0
   ·simp only [h,if_true] <;> omega
   ·simp only [h,if_false] <;> omega
theorem wL (its:List Value) (lo hi:Option Int):slicePick its.toArray lo hi none=((its.drop (HT.eU its.length 0 lo)).take (HT.eU its.length its.length hi - HT.eU its.length 0 lo)).toArray:=by
 obtain ⟨h1,h2,h3⟩:=zf lo hi its.toArray.size
 unfold slicePick
 rw [h1,h2,h3]
 simp only [sliceRange_one,pick_run,List.size_toArray] <;> rfl
noncomputable def ZZ (K:PySem.W.Frag):V→Option Int→Option Int→Hp→VK→Prop:=fun x lo hi H Q=>∃a xs,x=.ref a∧cO K H a xs∧∀p,H p=none→Q (.ref p) (upd H p (.lst (uA xs lo hi)))
theorem Qn:Ql X (ZZ X.K):=by
 intro pins s σ H x v vl vu lo hi sl Q I rx hs pl pu h
 obtain ⟨a,xs,rfl,hx,q⟩:=h
 cases rx
 obtain ⟨its,r,ht,hz⟩:=I.list hx
 have hlen:=r.length
 refine ⟨"list",_,slot_list_getitem.lookup,ht.isList.typeIs,?_⟩
 refine wpAny_getItem_list_slice ht.isList hs pl pu .none (by simp) ?_ (by rw [List.size_toArray] <;> omega)
 rw [wL,←hlen]
 refine ⟨.ref s.heap.objs.size,_,I.laid (t':=s.toks) (o:=.lst (uA xs lo hi)) (fun b ob q=>Heap.get?_push_of_some _ q) (Nat.le_refl _) ?_,rfl,q _ (I.hok.fresh (Nat.le_refl _))⟩
 exact ⟨Nat.le_trans (sV xs lo hi) hz,_,0,(r.drop (HT.eU xs.length 0 lo)).take (HT.eU xs.length xs.length hi - HT.eU xs.length 0 lo),Heap.get?_push_size _ rfl⟩
noncomputable def jR:V→Bool
 | .non=>true
 | .bl _=>true
 | .int _=>true
 | .str _=>true
 | _=>false
noncomputable def Lx:V→V→Bool
 | .non,.non=>true
 | .bl a,.bl b=>a==b
 | .bl a,.int b=>(if a then 1 else 0)==b
 | .int a,.bl b=>a==(if b then 1 else 0)
 | .int a,.int b=>a==b
 | .str a,.str b=>a==b
 | _,_=>false
theorem Ef {A:Around} {s:Shared} {y x:V} {u v:Value} (ry:RelV y u) (rx:RelV x v) (fy:jR y=true) (fx:jR x=true):SeqAt.EqAt A s u v (Lx y x):=by
 cases y with
 | non=>
  cases ry
  cases x with
  | non=>cases rx; exact SeqAt.EqAt.same _
  | bl b=>cases rx; exact SeqAt.EqAt.none_bool b
  | int b=>obtain ⟨t,rfl⟩:=rx; exact SeqAt.EqAt.none_int b t
  | str b=>obtain ⟨t,rfl⟩:=rx; exact SeqAt.EqAt.none_str b t
  | _=>exact absurd (show false=true from fx) Bool.false_ne_true
 | bl a=>
  cases ry
  cases x with
  | non=>cases rx; exact SeqAt.EqAt.bool_none a
  | bl b=>cases rx; exact SeqAt.EqAt.bool_bool a b
  | int b=>obtain ⟨t,rfl⟩:=rx; exact SeqAt.EqAt.bool_int a b t
  | str b=>obtain ⟨t,rfl⟩:=rx; exact SeqAt.EqAt.bool_str a b t
  | _=>exact absurd (show false=true from fx) Bool.false_ne_true
 | int a=>
  obtain ⟨t',rfl⟩:=ry
  cases x with
  | non=>cases rx; exact SeqAt.EqAt.int_none a t'
  | bl b=>cases rx; exact SeqAt.EqAt.int_bool a t' b
  | int b=>obtain ⟨t,rfl⟩:=rx; exact SeqAt.EqAt.int_int a t' b t
  | str b=>obtain ⟨t,rfl⟩:=rx; exact SeqAt.EqAt.int_str a t' b t
  | _=>exact absurd (show false=true from fx) Bool.false_ne_true
 | str a=>
  obtain ⟨t',rfl⟩:=ry
  cases x with
  | non=>cases rx; exact SeqAt.EqAt.str_none a t'
  | bl b=>cases rx; exact SeqAt.EqAt.str_bool a t' b
  | int b=>obtain ⟨t,rfl⟩:=rx; exact SeqAt.EqAt.str_int a t' b t
  | str b=>obtain ⟨t,rfl⟩:=rx; exact SeqAt.EqAt.str_str a t' b t
  | _=>exact absurd (show false=true from fx) Bool.false_ne_true
 | _=>exact absurd (show false=true from fy) Bool.false_ne_true
noncomputable def Eg (x:V) (u:Value):Bool:=match u with
 | .none=>Lx .non x
 | .bool b=>Lx (.bl b) x
 | .int i _=>Lx (.int i) x
 | .str z _=>Lx (.str z) x
 | _=>false
theorem Ly {x y:V} {u:Value} (r:RelV y u) (f:jR y=true):Eg x u=Lx y x:=by
 cases y with
 | non=>cases r; rfl
 | bl b=>cases r; rfl
 | int i=>obtain ⟨t,rfl⟩:=r; rfl
 | str z=>obtain ⟨t,rfl⟩:=r; rfl
 | _=>exact absurd (show false=true from f) Bool.false_ne_true
theorem pU {x:V}:∀{xs:List V} {us:List Value},Vals xs us→xs.all jR=true→us.any (Eg x)=xs.any fun y=>Lx y x
 | _,_,.nil,_=>rfl
 | y::xs,u::us,.cons r t,f=>by
  rw [List.all_cons,Bool.and_eq_true] at f
  rw [List.any_cons,List.any_cons,Ly r f.1,pU t f.2]
theorem mq {A:Around} {s:Shared} {x:V} {v:Value} (rx:RelV x v) (fx:jR x=true):∀{xs:List V} {us:List Value},Vals xs us→xs.all jR=true→∀u∈us,SeqAt.EqAt A s u v (Eg x u)
 | _,_,.nil,_=>fun u hu=>by cases hu
 | y::xs,u::us,.cons r t,f=>fun u' hu=>by
  rw [List.all_cons,Bool.and_eq_true] at f
  rcases List.mem_cons.mp hu with rfl | hu
  ·rw [Ly r f.1]; exact Ef r rx f.1 fx
  ·exact mq rx fx t f.2 u' hu
noncomputable def inV (x:V) (xs:List V):Bool:=xs.any fun y=>Lx y x
noncomputable def YX (K:PySem.W.Frag) (neg:Bool):R2:=fun x y H Q=>∃p xs,y=.ref p∧(cO K H p xs∨eX K H p xs)∧jR x=true∧xs.all jR=true∧Q (.bl (if neg then !inV x xs else inV x xs)) H
theorem JB:gW X (compareOp .In) (YX X.K false):=by
 intro pins s σ H x y v u Q I rx ry h
 obtain ⟨p,xs,rfl,hq,fx,fs,q⟩:=h
 cases ry
 rcases hq with hq | hq
 ·obtain ⟨its,r,pl,hz⟩:=I.list hq
  refine SeqAt.in_listAt (Eg x) pl.isList (fun w hw=>mq rx fx r fs w (by simpa using hw)) ⟨.bl _,H,I,rfl,?_⟩
  rw [show its.toArray.any (Eg x)=its.any (Eg x) by simp,pU r fs]
  exact q
 ·obtain ⟨its,r,pl,hz⟩:=I.tuple hq
  refine SeqAt.in_tupleAt (Eg x) pl (fun w hw=>mq rx fx r fs w (by simpa using hw)) ⟨.bl _,H,I,rfl,?_⟩
  rw [show its.toArray.any (Eg x)=its.any (Eg x) by simp,pU r fs]
  exact q
theorem zg:gW X (compareOp .NotIn) (YX X.K true):=by
 intro pins s σ H x y v u Q I rx ry h
 obtain ⟨p,xs,rfl,hq,fx,fs,q⟩:=h
 cases ry
 rcases hq with hq | hq
 ·obtain ⟨its,r,pl,hz⟩:=I.list hq
  refine SeqAt.notIn_listAt (Eg x) pl.isList (fun w hw=>mq rx fx r fs w (by simpa using hw)) ⟨.bl _,H,I,rfl,?_⟩
  rw [show its.toArray.any (Eg x)=its.any (Eg x) by simp,pU r fs]
  exact q
 ·obtain ⟨its,r,pl,hz⟩:=I.tuple hq
  refine SeqAt.notIn_tupleAt (Eg x) pl (fun w hw=>mq rx fx r fs w (by simpa using hw)) ⟨.bl _,H,I,rfl,?_⟩
  rw [show its.toArray.any (Eg x)=its.any (Eg x) by simp,pU r fs]
  exact q
theorem pW:cD X (.builtin "len") (fun xs H Q=>∃p ys,xs=[.ref p]∧(cO X.K H p ys∨eX X.K H p ys)∧Q (.int ys.length) H):=by
 intro pins s σ H xs us Q I r h
 obtain ⟨p,ys,rfl,hq,q⟩:=h
 obtain ⟨u,rfl,rx⟩:=vals1 r
 cases rx
 have hn:=oW
 rcases hq with hq | hq
 ·obtain ⟨its,r',pl,hz⟩:=I.list hq
  have hlen:=r'.length
  exact Calls.call_len_list pl.isList (by simp only [List.size_toArray] <;> omega) ⟨.int ys.length,H,I.tok _,⟨s.toks + 1,by rw [List.size_toArray,hlen]⟩,q⟩
 ·obtain ⟨its,r',pl,hz⟩:=I.tuple hq
  have hlen:=r'.length
  exact len_tuple pl (by simp only [List.size_toArray] <;> omega) ⟨.int ys.length,H,I.tok _,⟨s.toks + 1,by rw [List.size_toArray,hlen]⟩,q⟩
theorem zj:cD X (.builtin "len") (fun xs H Q=>∃z,xs=[.str z]∧z.length≤sizeLine∧Q (.int z.length) H):=by
 intro pins s σ H xs us Q I r h
 obtain ⟨z,rfl,hz,q⟩:=h
 obtain ⟨u,rfl,t,rfl⟩:=vals1 r
 have hn:=oW
 exact len_str (by omega) ⟨.int z.length,H,I.tok _,⟨_,rfl⟩,q⟩
theorem cD.or {f:Value} {r r':List V→Hp→VK→Prop} (h:cD X f r) (h':cD X f r'):cD X f (fun xs H Q=>r xs H Q∨r' xs H Q):=by
 intro pins s σ H xs us Q I rs q
 rcases q with q | q
 ·exact h pins s σ H xs us Q I rs q
 ·exact h' pins s σ H xs us Q I rs q
theorem dw:cD X (.type "tuple") (fun xs H Q=>∃p ys,xs=[.ref p]∧((cO X.K H p ys∧∀l,H l=none→Q (.ref l) (upd H l (.tup ys)))∨(eX X.K H p ys∧Q (.ref p) H))):=by
 intro pins s σ H xs us Q I r h
 obtain ⟨p,ys,rfl,h⟩:=h
 obtain ⟨u,rfl,rx⟩:=vals1 r
 cases rx
 rcases h with ⟨hq,q⟩ | ⟨hq,q⟩
 ·obtain ⟨its,r',pl,hz⟩:=I.list hq
  have hlen:=r'.length
  refine call_tuple_list pl.isList (fun h' kp=>?_) (by simp only [List.size_toArray] <;> omega)
  have I1:Inv X pins σ H { s with heap:=h' }:=I.kept (t':=s.toks) kp
  have I2:Inv X pins σ (upd H h'.objs.size (.tup ys)) { s with heap:=h'.push { cls:=.type "tuple",data:=.seq its.toArray } }:=
   I1.laid (t':=s.toks) (fun b o e=>Heap.get?_push_of_some _ e) (Nat.le_refl _) (show bW X.prog X.w _ _ _ (.tup ys) from ⟨hz,its,r',IsTup.new _ _⟩)
  exact ⟨.ref h'.objs.size,_,I2,rfl,q _ (I1.hok.fresh (Nat.le_refl _))⟩
 ·obtain ⟨its,r',pl,hz⟩:=I.tuple hq
  exact call_tuple_same pl ⟨.ref p,H,I,rfl,q⟩
noncomputable def tyV (K:PySem.W.Frag) (T:String) (x:V) (H:Hp):Prop:=match x with
 | .str _=>T="str"
 | .int _=>T="int"
 | .ref p=>(T="list"∧∃xs,cO K H p xs)∨(T="tuple"∧∃o,K.lookup p=some o∧o.cls=.type "tuple"∧o.dict=none)∨
   (T="dict"∧((∃kvs,H p=some (.dK kvs))∨∃kvs,H p=some (.dT kvs)))∨(T="set"∧∃S n,H p=some (.set S n))
 | _=>False
theorem U6 {pins:List (Addr×Obj)} {σ:St} {H:Hp} {s:Shared} {T:String} {x:V} {v:Value} (I:Inv X pins σ H s) (r:RelV x v) (ty:tyV X.K T x H):
  s.TypeIs v T∧∀a,v=.ref a→∃ob,s.heap.get? a=some ob∧ob.dict=none:=by
 cases x with
 | str z=>
  obtain ⟨t,rfl⟩:=r
  cases (show T="str" from ty)
  exact ⟨typeIs_str s z t,fun _ e=>nomatch e⟩
 | int i=>
  obtain ⟨t,rfl⟩:=r
  cases (show T="int" from ty)
  exact ⟨typeIs_int s i t,fun _ e=>nomatch e⟩
 | ref p=>
  cases r
  rcases ty with ⟨rfl,xs,hq⟩ | ⟨rfl,o,hk,hc,hd⟩ | ⟨rfl,hk⟩ | ⟨rfl,S,n,hk⟩
  ·obtain ⟨its,_,pl,_⟩:=I.list hq
   refine ⟨pl.isList.typeIs,fun a e=>?_⟩
   cases e
   obtain ⟨o,n,e,c,hd,_⟩:=pl
   exact ⟨o,e,hd⟩
  ·refine ⟨⟨o,I.pO p o hk,hc⟩,fun a e=>?_⟩
   cases e
   exact ⟨o,I.pO _ o hk,hd⟩
  ·have z:∃o,s.heap.get? p=some o∧o.ExactDict:=by
    rcases hk with ⟨kvs,hk⟩ | ⟨kvs,hk⟩
    ·obtain ⟨_,_,_,_,o,_,_,e,ex,_⟩:=I.hok p _ hk
     exact ⟨o,e,ex⟩
    ·obtain ⟨_,_,_,_,o,_,_,e,ex,_⟩:=I.hok p _ hk
     exact ⟨o,e,ex⟩
   obtain ⟨o,e,ex⟩:=z
   refine ⟨⟨o,e,ex.1⟩,fun a e2=>?_⟩
   cases e2
   exact ⟨o,e,ex.2.1⟩
  ·obtain ⟨o,_,_,_,e,ex,_⟩:=I.hok p _ hk
   refine ⟨⟨o,e,ex.1⟩,fun a e2=>?_⟩
   cases e2
   exact ⟨o,e,ex.2.1⟩
 | _=>exact False.elim ty
noncomputable def tBM (K:PySem.W.Frag) (T:String) (r:V→List V→Hp→VK→Prop) (to:TE) (t:TA):TE:=fun σ H Q=>to σ H fun x H1=>tyV K T x H1∧t σ H1 fun xs H2=>r x xs H2 Q
variable {o e:Expr} {es:List Expr} {to:TE} {t:TA} {name:Str} {apos cpos:Pos} {T id:String} {r:V→List V→Hp→VK→Prop}
theorem SJ (pa:PlainAttrs T) (slot:Slot T name id) (hty:typeOf (.builtin id)=pure (.type "method_descriptor")) (hm:Wq X id r) (ho:PE X o to) (ha:PA X (e::es) t)
  (hbase:attributeBase o name X.env (eval o X.env)=eval o X.env:=by rfl)
  (hfew:((backTo cpos (starEach (e::es) X.env)).all (fun x=>!x.1)&&(backToKw cpos (keywordEach [] X.env)).all (fun x=>x.1.isSome)
   &&decide ((e::es).length + ([]:List Keyword).length + (if ([]:List Keyword).isEmpty then 0 else 1) < 30))=true:=by rfl)
  (hline:(apos.endLine==cpos.line)=true:=by rfl) (hs:starEach (e::es) X.env=(false,eval e X.env)::starEach es X.env:=by rfl) (hplain:(backTo cpos (starEach es X.env)).any (·.1)=false:=by rfl):
  PE X (.Call (.Attribute o name apos) (e::es) [] cpos) (tBM X.K T r to t):=by
 intro pins s σ H Q I h
 refine wpAny_Call_method_late hbase hfew hline rfl (cU (ho pins s σ H _ I h) fun v s1 aV=>?_)
 obtain ⟨x,H1,I1,r1,ty,q1⟩:=aV
 obtain ⟨h1,h2⟩:=U6 I1 r1 ty
 refine ⟨T,id,pa,slot,hty,h1,h2,?_⟩
 have hA:=ha cpos pins s1 σ H1 _ I1 q1
 rw [hs] at hA ⊢
 refine Calls.callWith_builtin (by show (false || (backTo cpos (starEach es X.env)).any (·.1))=false; rw [hplain] <;> rfl) (Calls.evalArgs_plain ?_)
 exact cU hA fun us s2 ⟨vs,H2,I2,r2,q2⟩=>hm pins s2 σ H2 x vs v us Q I2 r1 r2 q2
end
end L2
namespace L2
open PySem PySem.Spec PyProof.Rows
noncomputable def Wr (X:Cx) (id:String) (r:V→List V→Hp→VK→Prop):Prop:=
 ∀(pins:List (Addr×Obj)) (s:Shared) (σ:St) (H:Hp) (x:V) (xs:List V) (v:Value) (us:List Value) (Q:VK),Inv X pins σ H s→RelV x v→Vals xs us→r x xs H Q→
  wpAny (model X.prog X.w) X.A (call (.builtin id) (v::us)) (EP X pins σ Q) X.xe s
theorem Vals.one:∀{x:V} {us:List Value},Vals [x] us→∃u,us=[u]∧RelV x u
 | _,_,.cons r .nil=>⟨_,rfl,r⟩
theorem Vals.eraseIdx:∀{xs:List V} {us:List Value} (i:Nat),Vals xs us→Vals (xs.eraseIdx i) (us.eraseIdx i)
 | _,_,_,.nil=>.nil
 | _,_,0,.cons _ t=>t
 | _,_,i + 1,.cons r t=>.cons r (Vals.eraseIdx i t)
theorem Vals.reverse {xs:List V} {us:List Value} (h:Vals xs us):Vals xs.reverse us.reverse:=by
 induction h with
 | nil=>exact .nil
 | cons r t ih=>rw [List.reverse_cons,List.reverse_cons]; exact Vals.append ih (.cons r .nil)
theorem Vals.rep {xs:List V} {us:List Value} (h:Vals xs us):∀k:Nat,Vals (List.replicate k xs).flatten (List.replicate k us).flatten
 | 0=>.nil
 | k + 1=>by
  rw [List.replicate_succ,List.replicate_succ,List.flatten_cons,List.flatten_cons]
  exact Vals.append h (Vals.rep h k)
theorem foldl_rep (its:List Value):∀(k:Nat) (acc:List Value),
  List.foldl (fun x1 x2=>x1++x2) acc.toArray (List.replicate k its.toArray)=(acc++(List.replicate k its).flatten).toArray
 | 0,acc=>by simp
 | k + 1,acc=>by
  have e:acc.toArray++its.toArray=(acc++its).toArray:=by simp
  have e2:(acc++its)++(List.replicate k its).flatten=acc++(List.replicate (k + 1) its).flatten:=by
   rw [List.replicate_succ,List.flatten_cons,List.append_assoc]
  rw [←e2,←foldl_rep its k (acc++its),←e,List.replicate_succ,List.foldl_cons]
section
variable {X:Cx} {pins:List (Addr×Obj)} {σ:St} {H:Hp} {s:Shared} {l b:Addr} {xs ys zs:List V}
theorem Inv.Z0 {its its':List Value} {n:Nat} {f:Array Value→Array Value} {t':Nat} (I:Inv X pins σ H s) (hH:H l=some (.lst xs))
  (e:s.heap.get? l=some { cls:=.type "list",data:=.seq its.toArray n }) (hf:f its.toArray=its'.toArray) (hv:Vals ys its') (hz:ys.length≤sizeLine):
  Inv X pins σ (upd H l (.lst ys)) { s with heap:=s.heap.update l (Obj.mapSeq f),toks:=t' }:=by
 have q:=PySem.IsL.update e f
 rw [hf] at q
 refine I.write (x:=l) (e:=l) (by rw [hH]; exact trivial) (.inl rfl) (fun b' u hb hu=>(Heap.get?_update_other s.heap (Obj.mapSeq f) (Ne.symm hb)).trans hu) ⟨_,q⟩ ?_
 exact ⟨hz,its',_,hv,q⟩
theorem Inv.Xj {its:List Value} {t':Nat} (I:Inv X pins σ H s) (hv:Vals ys its) (hz:ys.length≤sizeLine):
  Inv X pins σ (upd H s.heap.objs.size (.lst ys)) { s with heap:=s.heap.push { cls:=.type "list",data:=.seq its.toArray },toks:=t' }:=
 I.laid (fun _ _ q=>Heap.get?_push_of_some _ q) (Nat.le_refl _) ⟨hz,its,0,hv,Heap.get?_push_size _ rfl⟩
theorem Inv.fresh (I:Inv X pins σ H s):H s.heap.objs.size=none:=I.hok.fresh (Nat.le_refl _)
theorem Inv.Qo (I:Inv X pins σ H s) (hH:H l=some (.lst xs)):xs.length≤sizeLine∧∃(its:List Value) (n:Nat),Vals xs its∧xs.length=its.length∧s.heap.get? l=some { cls:=.type "list",data:=.seq its.toArray n }:=by
 obtain ⟨z,its,n,r,e⟩:=I.hok l _ hH
 exact ⟨z,its,n,r,r.length,e⟩
theorem Lz {n:Nat} (h:n≤sizeLine):Builtin.List.listTooLong n=false:=by
 unfold Builtin.List.listTooLong
 exact decide_eq_false (by omega)
end
section
variable {X:Cx}
noncomputable def Qp:V→List V→Hp→VK→Prop:=fun x vs H Q=>∃l xs y,x=.ref l∧vs=[y]∧H l=some (.lst xs)∧xs.length < sizeLine∧Q .non (upd H l (.lst (xs++[y])))
theorem xP:Wr X "list.append" Qp:=by
 intro pins s σ H x vs v us Q I rx rv h
 obtain ⟨l,xs,y,rfl,rfl,hH,hz,q⟩:=h
 cases rx
 obtain ⟨u,rfl,ru⟩:=rv.one
 obtain ⟨z,its,n,r,hl,e⟩:=I.Qo hH
 refine call_meets F.slot_list_append ⟨_,e,rfl⟩ F.entry_list_append (F.args_list_append_2 _ _) (PySem.list_append l its.toArray n u (by rw [List.size_toArray]; omega)) ⟨e,?_⟩
 refine ⟨.non,_,I.Z0 (its':=its++[u]) hH e (by simp) (r.append (.cons ru .nil)) ?_,rfl,q⟩
 rw [List.length_append,List.length_singleton]
 omega
noncomputable def Xk:R2:=fun x y H Q=>∃l b xs zs,x=.ref l∧y=.ref b∧H l=some (.lst xs)∧H b=some (.lst zs)∧xs.length + zs.length≤sizeLine∧∀p,H p=none→Q (.ref p) (upd H p (.lst (xs++zs)))
theorem U7:gW X (binaryOp .Add) Xk:=by
 intro pins s σ H x y v u Q I rx ry h
 obtain ⟨l,b,xs,zs,rfl,rfl,hH,hB,hz,q⟩:=h
 cases rx
 cases ry
 obtain ⟨z,its,n,r,hl,e⟩:=I.Qo hH
 obtain ⟨z2,its2,n2,r2,hl2,e2⟩:=I.Qo hB
 refine PySem.P.add_list e e2 ?_ (by rw [List.size_toArray,List.size_toArray]; omega)
 have ea:its.toArray++its2.toArray=(its++its2).toArray:=by simp
 rw [ea]
 exact ⟨.ref _,_,I.Xj (t':=s.toks) (r.append r2) (by rw [List.length_append]; omega),rfl,q _ I.fresh⟩
noncomputable def Xl:R2:=fun x y H Q=>∃l k xs,x=.ref l∧y=.int k∧H l=some (.lst xs)∧-(2 ^ 63)≤k∧k < 2 ^ 63∧xs.length * k.toNat≤sizeLine∧
 ∀p,H p=none→Q (.ref p) (upd H p (.lst (List.replicate k.toNat xs).flatten))
theorem len_rep {α:Type} (xs:List α) (k:Nat):(List.replicate k xs).flatten.length=k * xs.length:=by
 induction k with
 | zero=>simp
 | succ k ih=>rw [List.replicate_succ,List.flatten_cons,List.length_append,ih,Nat.succ_mul,Nat.add_comm]
theorem U8:gW X (binaryOp .Mult) Xl:=by
 intro pins s σ H x y v u Q I rx ry h
 obtain ⟨l,k,xs,rfl,rfl,hH,h1,h2,hz,q⟩:=h
 cases rx
 obtain ⟨t,rfl⟩:=ry
 obtain ⟨z,its,n,r,hl,e⟩:=I.Qo hH
 have hlen:its.toArray.size * k.toNat≤sizeLine:=by rw [List.size_toArray,←hl]; exact hz
 have hcap:¬its.toArray.size * k.toNat > (2 ^ 63 - 1) / 8:=by
  have:(sizeLine:Nat)≤(2 ^ 63 - 1) / 8:=by decide
  omega
 have hfit:¬(!Builtin.List.listFitsIndex k)=true:=by
  rw [fitsIndex_both h1 h2]
  exact Bool.false_ne_true
 have Xm:¬Builtin.List.listTooLong (its.toArray.size * k.toNat)=true:=by
  rw [Lz hlen]
  exact Bool.false_ne_true
 have hnew:List.foldl (fun x1 x2=>x1++x2) #[] (List.replicate (if its.toArray.isEmpty=true then 0 else k.toNat) its.toArray)=(List.replicate k.toNat its).flatten.toArray:=by
  have f0:∀m:Nat,List.foldl (fun x1 x2=>x1++x2) #[] (List.replicate m its.toArray)=(List.replicate m its).flatten.toArray:=fun m=>by
   have:=foldl_rep its m []
   rw [List.nil_append] at this
   exact this
  rw [f0]
  cases its with
  | nil=>simp
  | cons a r'=>rw [if_neg (by simp)]
 refine wpAny_binaryOp_repeat_ref (T:="list") (U:="int") (by decide) ⟨_,e,rfl⟩ (fun s'=>typeIs_int s' k t) noFill_list_mul F.fills_int_mul F.slot_int_rmul repeat_list F.slot_int_index.lookup
  (call_meets F.slot_int_rmul (typeIs_int s k t) F.entry_int_rmul (F.args_int_rmul_2 _ _) (int___rmul___int_list k t l its.toArray n)
   ⟨e,rfl,⟨_,e,rfl⟩,call_meets F.slot_list_mul ⟨_,e,rfl⟩ F.entry_list_mul (F.args_list_mul_2 _ _) (AutoListH.list___mul___list_int_3 l its.toArray n k t hfit hcap Xm) ⟨e,?_⟩⟩)
 rw [hnew]
 exact ⟨.ref _,_,I.Xj (t':=s.toks) (r.rep k.toNat) (by rw [len_rep,Nat.mul_comm]; exact hz),rfl,q _ I.fresh⟩
end
section
variable {prog:Program} {w:World} {A:Around} {E:Value→Shared→Prop} {s:Shared}
set_option maxRecDepth 100000 in
end
section
variable {X:Cx}
end
end L2
namespace L2
open PySem PySem.Spec PyProof.Rows
section
variable {κ:Type} [DecidableEq κ]
noncomputable def nY (kvs:List (κ×V)) (k:κ):Option V:=(kvs.find? fun kv=>decide (kv.1=k)).map (·.2)
noncomputable def putK (kvs:List (κ×V)) (k:κ) (v:V):List (κ×V):=
 if (kvs.any fun kv=>decide (kv.1=k))=true then kvs.map (fun kv=>if kv.1=k then (kv.1,v) else kv) else kvs++[(k,v)]
noncomputable def SM (kvs:List (κ×V)) (k:κ):List (κ×V):=kvs.filter fun kv=>decide (kv.1≠k)
theorem pX {p:κ×V} {r:List (κ×V)} {k:κ} (e:p.1=k):nY (p::r) k=some p.2:=by simp [nY,List.find?_cons,e]
theorem pY {p:κ×V} {r:List (κ×V)} {k:κ} (e:¬p.1=k):nY (p::r) k=nY r k:=by simp [nY,List.find?_cons,e]
theorem Aw (k:κ):∀kvs:List (κ×V),(kvs.any fun kv=>decide (kv.1=k))=(nY kvs k).isSome
 | []=>rfl
 | p::r=>by
  rw [List.any_cons]
  by_cases e:p.1=k
  ·simp only [pX e,decide_eq_true e,Bool.true_or,Option.isSome_some]
  ·rw [pY e,decide_eq_false e,Bool.false_or]; exact Aw k r
theorem mC (kvs:List (κ×V)) (k:κ) (v:V):(putK kvs k v).length≤kvs.length + 1:=by
 unfold putK
 split
 ·rw [List.length_map]; omega
 ·rw [List.length_append,List.length_cons,List.length_nil]; omega
theorem qR.jT {o:Option V} {u:Option Value} (r:qR o u):o.isSome=u.isSome:=by
 cases o with
 | none=>cases u with
  | none=>rfl
  | some _=>exact (show False from r).elim
 | some _=>cases u with
  | none=>exact (show False from r).elim
  | some _=>rfl
theorem qR.getD {o:Option V} {u:Option Value} {d:V} {d':Value} (r:qR o u) (rd:RelV d d'):RelV (o.getD d) (u.getD d'):=by
 cases o with
 | none=>cases u with
  | none=>exact rd
  | some _=>exact (show False from r).elim
 | some _=>cases u with
  | none=>exact (show False from r).elim
  | some _=>exact r
theorem KV.val {kvs:List (κ×V)} {vs:List (κ×Value)} (r:KV kvs vs) (k:κ):qR (nY kvs k) (valueAt vs k):=by
 unfold KV at r
 induction r with
 | nil=>exact True.intro
 | @cons p q ps qs h t ih=>
  obtain ⟨h1,h2⟩:=h
  by_cases e:p.1=k
  ·have e':q.1=k:=h1.symm.trans e
   have b:valueAt (q::qs) k=some q.2:=by simp [valueAt,List.find?_cons,e']
   rw [pX e,b]; exact h2
  ·have e':¬q.1=k:=fun z=>e (h1.trans z)
   have b:valueAt (q::qs) k=valueAt qs k:=by simp [valueAt,List.find?_cons,e']
   rw [pY e,b]; exact ih
theorem KV.any {kvs:List (κ×V)} {vs:List (κ×Value)} (r:KV kvs vs) (k:κ):(kvs.any fun kv=>decide (kv.1=k))=vs.any fun kv=>decide (kv.1=k):=by
 unfold KV at r
 induction r with
 | nil=>rfl
 | cons h t ih=>rw [List.any_cons,List.any_cons,ih,h.1]
theorem KV.repl {kvs:List (κ×V)} {vs:List (κ×Value)} (r:KV kvs vs) (k:κ) {y:V} {u:Value} (ry:RelV y u):
  KV (kvs.map fun kv=>if kv.1=k then (kv.1,y) else kv) (vs.map fun kv=>if kv.1=k then (kv.1,u) else kv):=by
 unfold KV at r ⊢
 induction r with
 | nil=>exact .nil
 | @cons p q ps qs h t ih=>
  rw [List.map_cons,List.map_cons]
  refine .cons ?_ ih
  obtain ⟨h1,h2⟩:=h
  by_cases e:p.1=k
  ·rw [if_pos e,if_pos (h1.symm.trans e)]; exact ⟨h1,ry⟩
  ·rw [if_neg e,if_neg (fun z=>e (h1.trans z))]; exact ⟨h1,h2⟩
theorem KV.put {kvs:List (κ×V)} {vs:List (κ×Value)} (r:KV kvs vs) (k:κ) {y:V} {u:Value} (ry:RelV y u):KV (putK kvs k y) (stored vs k u):=by
 unfold putK stored
 rw [r.any k]
 by_cases e:(vs.any fun kv=>decide (kv.1=k))=true
 ·rw [if_pos e,if_pos e]; exact r.repl k ry
 ·rw [if_neg e,if_neg e]; exact Paired.snoc r ⟨rfl,ry⟩
theorem KV.drop {kvs:List (κ×V)} {vs:List (κ×Value)} (r:KV kvs vs) (k:κ):KV (SM kvs k) (without vs k):=by
 unfold KV at r ⊢
 unfold SM without
 induction r with
 | nil=>exact .nil
 | @cons p q ps qs h t ih=>
  obtain ⟨h1,h2⟩:=h
  rw [List.filter_cons,List.filter_cons]
  by_cases e:p.1=k
  ·have a:¬decide (p.1≠k)=true:=by simp [e]
   have b:¬decide (q.1≠k)=true:=by simp [h1.symm.trans e]
   rw [if_neg a,if_neg b]; exact ih
  ·have e':¬q.1=k:=fun z=>e (h1.trans z)
   have a:decide (p.1≠k)=true:=by simp [e]
   have b:decide (q.1≠k)=true:=by simp [e']
   rw [if_pos a,if_pos b]; exact .cons ⟨h1,h2⟩ ih
theorem KV.length {kvs:List (κ×V)} {vs:List (κ×Value)} (r:KV kvs vs):kvs.length=vs.length:=Paired.length r
end
theorem xQ {P:Program} {w:World} {k:Key} {u:Value} (r:RelV (kV k) u):(dH P w).is k u=true:=by
 cases k with
 | inl i=>obtain ⟨t,e⟩:=(show ∃t,u=Value.int i t from r); subst e; exact Am P w i t
 | inr x=>obtain ⟨t,e⟩:=(show ∃t,u=Value.str x t from r); subst e; exact An P w x t
theorem xR {P:Program} {w:World}:∀{ks:List Key} {us:List Value},Vals (ks.map kV) us→ItemsAre (dH P w) ks us
 | [],_,r=>by rw [List.map_nil] at r; cases r; exact .nil
 | k::ks,_,r=>by
  rw [List.map_cons] at r
  cases r with
  | cons h t=>exact .cons (xQ h) (xR t)
noncomputable abbrev KT (H:Hp):List (List Key×V)→List (List Key×Addr×Value)→Prop:=Paired fun p q=>p.1=q.1∧H q.2.1=some (.tup (p.1.map kV))∧RelV p.2 q.2.2
theorem KT.val {H:Hp} {kvs:List (List Key×V)} {xs:List (List Key×Addr×Value)} (r:KT H kvs xs) (k:List Key):qR (nY kvs k) ((atKey xs k).map (·.2)):=by
 induction r with
 | nil=>exact True.intro
 | @cons p q ps qs h t ih=>
  obtain ⟨h1,_,h2⟩:=h
  by_cases e:p.1=k
  ·have e':q.1=k:=h1.symm.trans e
   have b:atKey (q::qs) k=some q.2:=by simp [atKey,List.find?_cons,e']
   rw [pX e,b]; exact h2
  ·have e':¬q.1=k:=fun z=>e (h1.trans z)
   have b:atKey (q::qs) k=atKey qs k:=by simp [atKey,List.find?_cons,e']
   rw [pY e,b]; exact ih
theorem KT.repl {H:Hp} {kvs:List (List Key×V)} {xs:List (List Key×Addr×Value)} (r:KT H kvs xs) (k:List Key) {y:V} {u:Value} (ry:RelV y u):
  KT H (kvs.map fun kv=>if kv.1=k then (kv.1,y) else kv) (xs.map (putAt k u)):=by
 induction r with
 | nil=>exact .nil
 | @cons p q ps qs h t ih=>
  rw [List.map_cons,List.map_cons]
  refine .cons ?_ ih
  obtain ⟨h1,h2,h3⟩:=h
  unfold putAt
  by_cases e:p.1=k
  ·rw [if_pos e,if_pos (h1.symm.trans e)]; exact ⟨h1,h2,ry⟩
  ·rw [if_neg e,if_neg (fun z=>e (h1.trans z))]; exact ⟨h1,h2,h3⟩
theorem KT.put {H:Hp} {kvs:List (List Key×V)} {xs:List (List Key×Addr×Value)} (r:KT H kvs xs) (k:List Key) {b:Addr} {y:V} {u:Value} (hb:H b=some (.tup (k.map kV))) (ry:RelV y u):
  KT H (putK kvs k y) (storedH xs k b u):=by
 have e:(kvs.any fun kv=>decide (kv.1=k))=(atKey xs k).isSome:=by
  rw [Aw,(r.val k).jT,Option.isSome_map]
 unfold putK storedH
 rw [e]
 by_cases q:(atKey xs k).isSome=true
 ·rw [if_pos q,if_pos q]; exact r.repl k ry
 ·rw [if_neg q,if_neg q]; exact Paired.snoc r ⟨rfl,hb,ry⟩
theorem KT.keeps {H H':Hp} {kvs:List (List Key×V)} {xs:List (List Key×Addr×Value)} (r:KT H kvs xs) (ht:∀b ys,H b=some (.tup ys)→H' b=some (.tup ys)):KT H' kvs xs:=
 Paired.Uc r fun _ _ z=>⟨z.1,ht _ _ z.2.1,z.2.2⟩
section
variable {P:Program} {w:World} {H:Hp} {h:Heap} {a:Addr}
theorem SN {u:HO} (ok:pM P w H h) (e:Rd H a u):bW P w H h a u:=e.ok ok
theorem xT {kvs:List (Key×V)} (ok:pM P w H h) (e:Rd H a (.dK kvs)):kvs.length≤sizeLine∧(a==sysModules)=false∧∃vs,KV kvs vs∧h.DictOf (dH P w) a vs:=
 show bW P w H h a (.dK kvs) from SN ok e
theorem SQ {kvs:List (Key×V)} (ok:pM P w H h) (e:H a=some (.dK kvs)):kvs.length≤sizeLine∧(a==sysModules)=false∧∃vs,KV kvs vs∧h.DictOf (dH P w) a vs:=xT ok (.inl e)
theorem uB {ks:List Key} (ok:pM P w H h) (e:H a=some (.tup (ks.map kV))):(tupleKind (dH P w)).is h ks a:=by
 obtain ⟨_,its,r,o,h1,h2,n,h3⟩:=(show bW P w H h a (.tup (ks.map kV)) from ok a _ e)
 exact ⟨o,its.toArray,n,h1,h2,h3,by simpa using xR r⟩
theorem Ax {kvs:List (List Key×V)} (ok:pM P w H h) (e:Rd H a (.dT kvs)):kvs.length≤sizeLine∧(a==sysModules)=false∧
  ∃xs,KT H kvs xs∧h.DictOfH (tupleKind (dH P w)) a xs:=by
 obtain ⟨z,y,xs,r,o,es,ep,h1,h2,h3,h4,h5⟩:=(show bW P w H h a (.dT kvs) from SN ok e)
 refine ⟨z,y,xs,r,o,es,ep,h1,h2,h3,h4,fun x hx=>?_,h5⟩
 have all:∀{l:List (List Key×V)} {m:List (List Key×Addr×Value)},KT H l m→∀x∈m,(tupleKind (dH P w)).is h x.1 x.2.1:=by
  intro l m q
  induction q with
  | nil=>intro x hx; exact nomatch hx
  | @cons p q ps qs hq t ih=>
   intro x hx
   rcases List.mem_cons.mp hx with e | hx
   ·subst e
    exact uB ok (by rw [←hq.1]; exact hq.2.1)
   ·exact ih x hx
 exact all r x hx
theorem SX {kvs:List (List Key×V)} (ok:pM P w H h) (e:H a=some (.dT kvs)):kvs.length≤sizeLine∧(a==sysModules)=false∧
  ∃xs,KT H kvs xs∧h.DictOfH (tupleKind (dH P w)) a xs:=Ax ok (.inl e)
end
noncomputable def nZ (H:Hp) (a:Addr) (y:V) (r:Option V):Prop:=
 (∃kvs k,Rd H a (.dK kvs)∧y=kV k∧r=nY kvs k)∨∃kvs k b,Rd H a (.dT kvs)∧y=.ref b∧H b=some (.tup (k.map kV))∧r=nY kvs k
noncomputable def wM (H:Hp) (a:Addr) (y v:V) (H':Hp):Prop:=
 (∃kvs k,H a=some (.dK kvs)∧y=kV k∧kvs.length < sizeLine∧H'=upd H a (.dK (putK kvs k v)))∨
 ∃kvs k b,H a=some (.dT kvs)∧y=.ref b∧H b=some (.tup (k.map kV))∧kvs.length < sizeLine∧H'=upd H a (.dT (putK kvs k v))
theorem nZ.k {H:Hp} {a:Addr} {kvs:List (Key×V)} {k:Key} (e:H a=some (.dK kvs)):nZ H a (kV k) (nY kvs k):=.inl ⟨kvs,k,.inl e,rfl,rfl⟩
theorem nZ.t {H:Hp} {a b:Addr} {kvs:List (List Key×V)} {k:List Key} (e:H a=some (.dT kvs)) (eb:H b=some (.tup (k.map kV))):nZ H a (.ref b) (nY kvs k):=.inr ⟨kvs,k,b,.inl e,rfl,eb,rfl⟩
theorem wM.k {H:Hp} {a:Addr} {kvs:List (Key×V)} {k:Key} {v:V} (e:H a=some (.dK kvs)) (hl:kvs.length < sizeLine):wM H a (kV k) v (upd H a (.dK (putK kvs k v))):=.inl ⟨kvs,k,e,rfl,hl,rfl⟩
theorem wM.t {H:Hp} {a b:Addr} {kvs:List (List Key×V)} {k:List Key} {v:V} (e:H a=some (.dT kvs)) (eb:H b=some (.tup (k.map kV))) (hl:kvs.length < sizeLine):
  wM H a (.ref b) v (upd H a (.dT (putK kvs k v))):=.inr ⟨kvs,k,b,e,rfl,eb,hl,rfl⟩
section
variable {X:Cx} {pins:List (Addr×Obj)} {σ:St} {H:Hp} {s:Shared} {a:Addr} {y v:V} {u r:Value} {o:Option V} {A:Around} {E:Value→Shared→Prop}
theorem Inv.big (I:Inv X pins σ H s):sysModules < s.heap.objs.size:=by
 have h:mainGlobals < s.heap.objs.size:=(I.mod.glob.keeps I.bk).lt
 exact Nat.lt_trans (by decide) h
theorem JC {Q:Value→Shared→Prop} (hu:A.units + 1 < cLine) (I:Inv X pins σ H s) (g:nZ H a y (some v)) (ry:RelV y u) (h:∀w' s',Inv X pins σ H s'→RelV v w'→Q w' s'):
  wpAny (model X.prog X.w) A (getItem (.ref a) u) Q E s:=by
 rcases g with ⟨kvs,k,e,ey,l⟩ | ⟨kvs,k,b,e,ey,eb,l⟩
 ·subst ey
  obtain ⟨z,hd,vs,rel,dd⟩:=xT I.hok e
  obtain ⟨w',hw,rw'⟩:=qR.some_of (v:=v) (o:=valueAt vs k) (by rw [l]; exact rel.val k)
  exact wpAny_getItem_of (xQ ry) dd.mapOf hw (h w' _ (I.tok _) rw')
 ·subst ey
  cases (show u=Value.ref b from ry)
  obtain ⟨z,hd,xs,rel,dd⟩:=Ax I.hok e
  obtain ⟨w',hw,rw'⟩:=qR.some_of (v:=v) (o:=(atKey xs k).map (·.2)) (by rw [l]; exact rel.val k)
  obtain ⟨p,hp,hp2⟩:=Option.map_eq_some_iff.mp hw
  refine wpAny_getItem_heap (tupleKind_room_in1 hu) (uB I.hok eb) dd hp ?_
  rw [hp2]
  exact h w' _ (I.tok _) rw'
theorem Xn {Q:Value→Shared→Prop} (hu:A.units + 1 < cLine) (I:Inv X pins σ H s) (g:nZ H a y o) (ry:RelV y u) (h:∀s',Inv X pins σ H s'→Q (.bool o.isSome) s'):
  wpAny (model X.prog X.w) A (compareOp .In u (.ref a)) Q E s:=by
 rcases g with ⟨kvs,k,e,ey,l⟩ | ⟨kvs,k,b,e,ey,eb,l⟩
 ·subst ey
  obtain ⟨z,hd,vs,rel,dd⟩:=xT I.hok e
  refine wpAny_in_of (xQ ry) hd dd.mapOf ?_
  rw [←(rel.val k).jT,←l]
  exact h _ (I.tok _)
 ·subst ey
  cases (show u=Value.ref b from ry)
  obtain ⟨z,hd,xs,rel,dd⟩:=Ax I.hok e
  refine wpAny_in_heap (tupleKind_room_in1 hu) (uB I.hok eb) hd dd ?_
  have q:=(rel.val k).jT
  rw [Option.isSome_map] at q
  rw [←q,←l]
  exact h _ (I.tok _)
theorem G4 {Q:Value→Shared→Prop} (hu:A.units + 1 < cLine) (I:Inv X pins σ H s) (g:nZ H a y o) (ry:RelV y u) (h:∀s',Inv X pins σ H s'→Q (.bool (!o.isSome)) s'):
  wpAny (model X.prog X.w) A (compareOp .NotIn u (.ref a)) Q E s:=by
 rcases g with ⟨kvs,k,e,ey,l⟩ | ⟨kvs,k,b,e,ey,eb,l⟩
 ·subst ey
  obtain ⟨z,hd,vs,rel,dd⟩:=xT I.hok e
  refine wpAny_notIn_of (xQ ry) hd dd.mapOf ?_
  rw [←(rel.val k).jT,←l]
  exact h _ (I.tok _)
 ·subst ey
  cases (show u=Value.ref b from ry)
  obtain ⟨z,hd,xs,rel,dd⟩:=Ax I.hok e
  refine wpAny_notIn_heap (tupleKind_room_in1 hu) (uB I.hok eb) hd dd ?_
  have q:=(rel.val k).jT
  rw [Option.isSome_map] at q
  rw [←q,←l]
  exact h _ (I.tok _)
theorem nF {h':Heap} {t':Nat} {ob:HO} (I:Inv X pins σ H s) (mu:Wy (H a)) (hs:Heap.SameBut a s.heap h') (he:∃q,h'.get? a=some q) (new:bW X.prog X.w (upd H a ob) h' a ob):
  Inv X pins σ (upd H a ob) { s with heap:=h',toks:=t' }:=
 I.write (x:=a) (e:=a) mu (.inl rfl) (fun b q hb z=>(hs.2 b hb).trans z) he new
theorem Eh {P:Program} {w:World} {H':Hp} {h':Heap} {kvs:List (Key×V)} {vs:List (Key×Value)} (z:kvs.length≤sizeLine) (hd:(a==sysModules)=false) (rel:KV kvs vs) (dd:h'.DictOf (dH P w) a vs):
  bW P w H' h' a (.dK kvs):=⟨z,hd,vs,rel,dd⟩
theorem xU {H':Hp} {Q:Unit→Shared→Prop} (hu:A.units + 1 < cLine) (I:Inv X pins σ H s) (g:wM H a y v H') (ry:RelV y u) (rv:RelV v r) (h:∀s',Inv X pins σ H' s'→Q () s'):
  wpAny (model X.prog X.w) A (setItem (.ref a) u r) Q E s:=by
 rcases g with ⟨kvs,k,e,ey,l,eH⟩ | ⟨kvs,k,b,e,ey,eb,l,eH⟩
 ·subst ey eH
  obtain ⟨z,hd,vs,rel,dd⟩:=SQ I.hok e
  have hz:vs.length≤sizeLine:=by rw [←rel.length]; exact z
  have hl:(putK kvs k v).length≤sizeLine:=by have:=mC kvs k v; omega
  refine wpAny_setItem_pairs (hsz:=hz) (xQ ry) dd fun h' U9 hs=>h _ ?_
  have he:∃q,h'.get? a=some q:=let ⟨q,_,_,hq,_⟩:=U9; ⟨q,hq⟩
  exact nF I (by rw [e]; exact True.intro) hs he (Eh hl hd (rel.put k rv) U9)
 ·subst ey eH
  cases (show u=Value.ref b from ry)
  obtain ⟨z,hd,xs,rel,dd⟩:=SX I.hok e
  have hz:xs.length≤sizeLine:=by rw [←Paired.length rel]; exact z
  have hl:(putK kvs k v).length≤sizeLine:=by have:=mC kvs k v; omega
  refine wpAny_setItem_heap (hsz:=hz) (tupleKind_room_in1 hu) (uB I.hok eb) dd fun h' U9 hs=>h _ ?_
  obtain ⟨q,es,ep,hq,h2,h3,h4,_,h5⟩:=U9
  refine nF I (by rw [e]; exact True.intro) hs ⟨q,hq⟩ ⟨hl,hd,_,(rel.put k eb rv).keeps fun c ys ec=>?_,q,es,ep,hq,h2,h3,h4,h5⟩
  rw [aJ (KR ec e (fun z=>nomatch z))]
  exact ec
end
section
variable {X:Cx} {pins:List (Addr×Obj)} {σ:St} {H:Hp} {s:Shared} {a:Addr} {kvs:List (Key×V)} {k:Key} {u:Value} {A:Around} {E:Value→Shared→Prop}
theorem Xo {Q:Value→Shared→Prop} (I:Inv X pins σ H s) (e:Rd H a (.dK kvs)) (h:∀t s',Inv X pins σ H s'→Q (.int kvs.length t) s'):wpAny (model X.prog X.w) A (call (.builtin "len") [.ref a]) Q E s:=by
 obtain ⟨z,hd,vs,rel,dd⟩:=xT I.hok e
 refine call_len_dict hd dd (by rw [←rel.length]; rw [sizeLine_eq] at z; omega) ?_
 rw [←rel.length]
 exact h _ _ (I.tok _)
end
theorem Ay {X:Cx} {pins:List (Addr×Obj)} {σ:St} {H:Hp} {s:Shared} {a:Addr} {y:V} {o:Option V} (I:Inv X pins σ H s) (g:nZ H a y o):s.TypeIs (.ref a) "dict":=by
 rcases g with ⟨kvs,k,e,_,_⟩ | ⟨kvs,k,b,e,_,_,_⟩
 ·obtain ⟨_,_,vs,_,dd⟩:=xT I.hok e
  exact dd.typeIs
 ·obtain ⟨_,_,xs,_,dd⟩:=Ax I.hok e
  exact dd.typeIs
section
variable {X:Cx} {o i e value:Expr} {pos pos' tpos:Pos} {td ty tv:TE}
end
theorem Az {P:Program} {w:World} {H:Hp} (h:Heap) (hb:sysModules < h.objs.size):bW P w H (h.push { cls:=.type "dict",data:=.dict #[] }) h.objs.size (.dK []):=
 ⟨Nat.zero_le _,beq_eq_false_iff_ne.mpr (Ne.symm (Nat.ne_of_lt hb)),[],.nil,Heap.DictOf.new h⟩
noncomputable def Va:TE:=fun _ H Q=>∀p,H p=none→Q (.ref p) (upd H p (.dK []))
section
variable {X:Cx} {pos:Pos}
theorem LC:PE X (.Dict [] [] pos) Va:=fun pins s σ H Q I h=>
 wpAny_Dict_empty ⟨.ref s.heap.objs.size,_,I.laid (a:=s.heap.objs.size) (o:=.dK []) (t':=s.toks) (fun _ _ q=>Heap.get?_push_of_some _ q) (Nat.le_refl _) (Az s.heap I.big),rfl,h _ (I.hok.fresh (Nat.le_refl _))⟩
end
structure M1 (X:Cx) (o:Expr) (m:Str) (apos:Pos) (e:Expr) (cpos:Pos):Prop where
 base:attributeBase o m X.env (eval o X.env)=eval o X.env
 few:((backTo cpos (starEach [e] X.env)).all (fun x=>!x.1)&&(backToKw cpos (keywordEach [] X.env)).all (fun x=>x.1.isSome)
  &&decide (([e]:List Expr).length + ([]:List Keyword).length + (if ([]:List Keyword).isEmpty then 0 else 1) < 30))=true
 line:(apos.endLine==cpos.line)=true
 trees:backTo cpos (starEach [e] X.env)=[(false,eval e X.env)]
structure M2 (X:Cx) (o:Expr) (m:Str) (apos:Pos) (e f:Expr) (cpos:Pos):Prop where
 base:attributeBase o m X.env (eval o X.env)=eval o X.env
 few:((backTo cpos (starEach [e,f] X.env)).all (fun x=>!x.1)&&(backToKw cpos (keywordEach [] X.env)).all (fun x=>x.1.isSome)
  &&decide (([e,f]:List Expr).length + ([]:List Keyword).length + (if ([]:List Keyword).isEmpty then 0 else 1) < 30))=true
 line:(apos.endLine==cpos.line)=true
 trees:backTo cpos (starEach [e,f] X.env)=[(false,eval e X.env),(false,eval f X.env)]
section
variable {X:Cx} {pins:List (Addr×Obj)} {σ:St} {H:Hp} {s:Shared} {a:Addr} {y d:V} {u r:Value} {o:Option V} {A:Around} {E:Value→Shared→Prop}
end
section
variable {X:Cx} {o e f:Expr} {apos cpos:Pos} {td ty tx:TE}
end
section
variable {X:Cx} {pins:List (Addr×Obj)} {σ:St} {H:Hp} {s:Shared} {a:Addr} {kvs:List (Key×V)} {A:Around} {E:Value→Shared→Prop}
end
section
variable {X:Cx} {pins:List (Addr×Obj)} {σ:St} {H:Hp} {s:Shared} {a:Addr} {y:V} {u:Value} {A:Around} {E:Value→Shared→Prop}
end
end L2
namespace Att
open PySem PySem.W PySem.Calls PyProof.Rows
theorem tY {P:Params} {h:Heap}:∀(ns:List Int) (vs:List Value),WellAll P h vs (ns.map WData.int)→IntsAre vs ns:=by
 intro ns
 induction ns with
 | nil=>
  intro vs w
  rw [List.map_nil] at w
  cases w
  exact .nil
 | cons n ns ih=>
  intro vs w
  rw [List.map_cons] at w
  cases w with
  | cons a b=>
   cases a
   exact .cons _ _ (ih _ b)
theorem JD {l:OpenLaw} {n:Nat} (hn:l.most=some n) {P:Params} {h:Heap} {args:List WData} {vals:List Value}
  (hpre:l.row.toRowW.claim.pre args=true) (hwl:WellAll P h vals args):
  ∃a vs ns,vals=[Value.ref a]∧args=[WData.list (ns.map WData.int)]∧h.get? a=some { cls:=.type "list",data:=.seq vs.toArray }∧IntsAre vs ns∧ns.length≤n:=by
 have hsh:WShape.hasAll [] args [.list .int]=true:=(pre_splitW hpre).1
 have hc:l.pre.holds [] { args:=args }=true:=(pre_splitW hpre).2
 obtain ⟨d,r,rfl,h1,h2⟩:=hasAllW_cons hsh
 obtain rfl:=hasAllW_nil h2
 obtain ⟨xs,rfl,h3⟩:=hasW_list h1
 obtain ⟨ns,rfl⟩:=items_int h3
 have hlen:ns.length≤n:=by
  unfold OpenLaw.pre at hc
  have h4:(WTm.not (.lt (.lit (.int (n:Int))) (.len (.arg 0)))).holds [] { args:=[.list (ns.map .int)] }=true:=by
   have h4:=(holds_andW hc).1
   rw [hn] at h4
   exact h4
  have h5:=condW_of h4 (w_not (w_lt w_lit (w_len_list (w_arg rfl))))
  rw [List.length_map] at h5
  refine Nat.le_of_not_lt fun q=>?_
  have q':(n:Int) < ((ns.length:Nat):Int):=by omega
  first
   | (rw [decide_eq_true q'] at h5; exact absurd h5 (by decide))
   | (simp at h5; omega)
 cases hwl with
 | cons w1 w2=>
  cases w2
  cases w1 with
  | list ho hall=>exact ⟨_,_,ns,rfl,rfl,ho,tY ns _ hall,hlen⟩
theorem JF (l:OpenLaw) (args:List WData):l.row.toRowW.claim.post args (.bool true) args=true:=
 postW_of (r:=l.row.toRowW) (X:=(true==true))
  (show WShape.has [] (.bool true) .bool=true by first | rfl | decide | simp [WShape.has,WShape.arms,WShape.armsAll])
  (show (WTm.eq .res (.lit (.bool true))).value [] { args:=args,res:=some (.bool true),after:=args }=some (.bool (true==true)) from w_eq_bool (w_res rfl) w_lit) rfl
theorem Ba {l:OpenLaw} {n:Nat} {q:Program} {loose:List Str} {XP:(Str→Option Value)→Heap→Prop} {YP:World→Heap→Prop} {d:DefRec}
  (hn:l.most=some n) (hdf:d.params.defaults=[])
  (call:∀(w:World) (s₀ s₁:Shared) (mg mb:Str→Option Value) (fa:Addr) (o:Obj) (pm cd doc:Value) (a:Addr) (vs:List Value) (ns:List Int),
   Ground q loose [] XP w s₀ mg mb s₁.heap→YP w s₁.heap→
   s₁.heap.get? fa=some o→o.data=.func (docDef d.name d.params d.body d.scope pm cd doc)→s₁.heap.CodeRec cd d.name→mg d.name=some (.ref fa)→
   s₁.heap.get? a=some { cls:=.type "list",data:=.seq vs.toArray }→IntsAre vs ns→ns.length≤n→s₁.gens=#[]→
   codeAny (model l.prog w) callerA (.call (.ref fa) ⟨[.ref a],[]⟩) (fun r s'=>r=.ok (.ret (.bool true))∧OldK s₁.heap s'.heap∧s'.os=s₁.os∧AllBare s'.gens) s₁):
  WalkO q loose XP YP l.row.toRowW d [] (fun f vs=>PySem.call f vs):=by
 intro w s₀ s₁ mg mb G Y fa o pm cd doc dV kV ho hd hcd hD hmg hg args vals as hpre hlay hrd hwl hlo
 obtain rfl:dV=.none:=Dflts.none hD hdf
 obtain rfl:kV=.none:=Dflts.noKw hD
 obtain ⟨a,vs,ns,rfl,rfl,hobj,hints,hlen⟩:=JD hn hpre hwl
 refine enter_call (codeAny_mono (call w s₀ s₁ mg mb fa o pm cd doc a vs ns G Y ho (fd_plain hd) hcd hmg hobj hints hlen hg) fun r s' hq=>?_)
 obtain ⟨rfl,h2,h3,h4⟩:=hq
 exact ⟨.inl ⟨.bool true,.bool true,[],rfl,fun _=>rfl,.bool true,JF l _,fun _=>⟨List.Pairwise.nil,fun _ hm=>(nomatch hm)⟩⟩,h2,h3,h4⟩
section
variable {prog:Program} {w:World} {A:Around} {E:Value→Shared→Prop} {s:Shared} {K:Frag}
noncomputable def ledger (h:Heap) (L d:Addr):List (Addr×Obj):=(List.range h.objs.size).filterMap fun a=>if a=L∨a=d then none else (h.get? a).map fun o=>(a,o)
end
end Att
namespace L2
open PySem PySem.Spec PyProof.Rows
theorem qY:∀{vs:List Value} {ns:List Int},IntsAre vs ns→Vals (ns.map V.int) vs
 | _,_,.nil=>.nil
 | _,_,.cons n t h=>.cons ⟨t,rfl⟩ (qY h)
noncomputable def Only (H:Hp):Prop:=∀b,H b=none∨∃o xs,H b=some (.Al o (.lst xs))
theorem LK {P:Program} {w:World} {K:PySem.W.Frag} {mg mb:Str→Option Value} {CX:Jx} {k:Nat} {fa a:Addr} {fd:FuncData} {x:Str} {sp:Sp} {s₁:Shared} {vs:List Value} {ns:List Int}
  (KX:K.In s₁.heap) (hns:s₁.heap.Ns mainGlobals mg) (hb:s₁.heap.Ns builtinsNs mb) (hbb:∀x:Str,x≠"__name__"→mb x=bootBuiltins x) (hlim:s₁.heap.NoLimit) (hg:s₁.gens=#[])
  (ha:s₁.heap.get? a=some { cls:=.type "list",data:=.seq vs.toArray }) (hi:IntsAre vs ns) (hl:ns.length≤sizeLine) (hr:fH k callerA)
  (F:∀base:Heap,K.In base→base.Ns mainGlobals mg→dM P w K mg base CX k fa fd [x] sp) (hbind:∀(s:Shared) (u:Value),BindsTo s fd ⟨[u],[]⟩ [(x,u)])
  (hsp:∀H:Hp,Only H→cO K H a (ns.map V.int)→sp [.ref a] H (fun v _=>v=.bl true) fun _ _ _=>False)
  (Z1:∀H e s',CX [] H s₁ (fun _ _ _=>False) e s'→False):
  codeAny (model P w) callerA (.call (.ref fa) ⟨[.ref a],[]⟩) (fun r s'=>r=.ok (.ret (.bool true))∧OldK s₁.heap s'.heap∧s'.os=s₁.os∧AllBare s'.gens) s₁:=by
 have rv:=qY hi
 have lenV:=hi.length
 have core:∀H:Hp,Only H→cO K H a (ns.map V.int)→pM P w H s₁.heap→(∀b,H b≠none→b=a)→(H a≠none→K.lookup a=none)→
   codeAny (model P w) callerA (.call (.ref fa) ⟨[.ref a],[]⟩) (fun r s'=>r=.ok (.ret (.bool true))∧OldK s₁.heap s'.heap∧s'.os=s₁.os∧AllBare s'.gens) s₁:=by
  intro H hO hS hok hA hK
  have G5:∀{b:Addr} {o:Obj},s₁.heap.get? b=some o→H b=none→(yQ s₁.heap H).get? b=some o:=fun e n=>KY e n
  have Xd:∀{b:Addr} {o:Obj} {es:Array DictEntry} {ep:Nat},s₁.heap.get? b=some o→o.data=.dict es ep→H b=none:=fun {b o es ep} e d=>by
   cases q:H b with
   | none=>rfl
   | some u=>
    have e':b=a:=hA b (by rw [q]; simp)
    subst e'
    rw [ha] at e; cases e
    have d':Data.seq vs.toArray _=Data.dict es ep:=d
    cases d'
  have YZ:∀{b:Addr} {m:Str→Option Value},s₁.heap.Ns b m→(yQ s₁.heap H).Ns b m:=fun {b m} ⟨o,es,ep,e,d,r⟩=>⟨o,es,ep,G5 e (Xd e d),d,r⟩
  have hKb:K.In (yQ s₁.heap H):=fun b o e=>G5 (KX b o e) (by
   cases q:H b with
   | none=>rfl
   | some u=>
    have e':b=a:=hA b (by rw [q]; simp)
    subst e'
    rw [hK (by rw [q]; simp)] at e; cases e)
  have hM:Mod K mg (yQ s₁.heap H):=⟨hKb,YZ hns,⟨mb,YZ hb,hbb⟩,let ⟨mc,h1,h2⟩:=hlim; ⟨mc,YZ h1,h2⟩⟩
  have e0:DX P w K mg (yQ s₁.heap H) callerA [] s₁ H:=⟨rfl,hM,fun b o e=>PK e,Nat.le_of_eq (Jl _ _),trivial,fun b hb=>absurd (show b∈([]:List Addr) from hb) (by simp),hok,.of_eq hg⟩
  refine codeAny_mono ((F _ hKb (YZ hns)).run callerA [] s₁ H ⟨[.ref a],[]⟩ [.ref a] [.ref a] _ _ hr e0 (hbind s₁ (.ref a)) (.cons rfl .nil) (hsp H hO hS)) fun r s' h=>?_
  cases r with
  | error e=>exact (Z1 H e s' h).elim
  | ok fl=>
   cases fl with
   | next=>exact False.elim h
   | brk=>exact False.elim h
   | cont=>exact False.elim h
   | ret u=>
    obtain ⟨v,H',os,bare,un,hok',r',q⟩:=h
    have q':v=.bl true:=q
    subst q'
    obtain rfl:u=Value.bool true:=r'
    refine ⟨rfl,OldK.of_keep fun b o e=>?_,os,bare⟩
    cases q:H b with
    | none=>exact un.keep b o e q (by intro z; exact absurd (show b∈([]:List Addr) from z) (by simp)) (by simp)
    | some u=>
     rcases hO b with z | ⟨ob,xs,z⟩
     ·rw [q] at z; cases z
     ·have z2:=un.qT b ob _ z
      obtain ⟨e1,_⟩:=hok b _ z
      obtain ⟨e2,_⟩:=hok' b _ z2
      rw [e] at e1; cases e1
      exact e2
 cases hk:K.lookup a with
 | some o=>
  have e:=KX a o hk
  rw [ha] at e
  cases e
  refine core (fun _=>none) (fun _=>.inl rfl) (.inr ⟨_,vs.toArray,_,hk,rfl,rfl,rfl,by rw [List.size_toArray,lenV]; exact hl,by simpa using rv⟩) (fun b u z=>by have z':(none:Option HO)=some u:=z; cases z') (fun b z=>absurd rfl z) fun z=>absurd rfl z
 | none=>
  refine core (fun b=>if b=a then some (.Al { cls:=.type "list",data:=.seq vs.toArray } (.lst (ns.map V.int))) else none) (fun b=>?_) (.inl (.inr ⟨{ cls:=.type "list",data:=.seq vs.toArray },if_pos rfl⟩)) (fun b u z=>?_) (fun b z=>?_) fun _=>hk
  ·by_cases hb:b=a
   ·exact .inr ⟨_,_,if_pos hb⟩
   ·exact .inl (if_neg hb)
  ·by_cases hb:b=a
   ·have z':=(if_pos hb).symm.trans z
    cases z'
    subst hb
    exact ⟨ha,by rw [List.length_map]; exact hl,vs,_,rv,ha⟩
   ·have z':=(if_neg hb).symm.trans z
    cases z'
  ·by_cases hb:b=a
   ·exact hb
   ·exact absurd (if_neg hb) z
end L2
namespace L2
open PySem PySem.Spec PyProof.Rows
theorem Qq {l:PySem.W.OpenLaw} {n k:Nat} {q:Program} {loose:List Str} {XP:(Str→Option Value)→Heap→Prop} {YP:World→Heap→Prop} {d:DefRec} {K:Params→PySem.W.Frag} {CX:World→Jx} {sp:World→Sp} {x:Str}
  (hn:l.most=some n) (hn2:n≤sizeLine) (hdf:d.params.defaults=[]) (hr:fH k callerA)
  (hY:∀(w:World) (h:Heap),YP w h→(K w.params).In h)
  (F:∀(w:World) (mg:Str→Option Value) (fa:Addr) (h:Heap),(K w.params).In h→h.Ns mainGlobals mg→mg d.name=some (.ref fa)→
   ∃fd:FuncData,(∀(s:Shared) (u:Value),BindsTo s fd ⟨[u],[]⟩ [(x,u)])∧
    ∀base:Heap,(K w.params).In base→base.Ns mainGlobals mg→dM l.prog w (K w.params) mg base (CX w) k fa fd [x] (sp w))
  (hsp:∀(w:World) (H:Hp) (a:Addr) (ns:List Int),ns.length≤n→Only H→cO (K w.params) H a (ns.map V.int)→sp w [.ref a] H (fun v _=>v=.bl true) fun _ _ _=>False)
  (Z1:∀(w:World) (H:Hp) (s:Shared) (e:Value) (s':Shared),CX w [] H s (fun _ _ _=>False) e s'→False):
  PySem.W.WalkO q loose XP YP l.row.toRowW d [] (fun f vs=>PySem.call f vs):=by
 refine Att.Ba hn hdf fun w s₀ s₁ mg mb fa o pm cd doc a vs ns G Y ho hd hcd hmg hobj hints hlen hg=>?_
 have KX:=hY w _ Y
 obtain ⟨fd,hb,hF⟩:=F w mg fa _ KX G.T.g hmg
 exact LK KX G.T.g G.T.b G.T.builtins G.T.nolimit hg hobj hints (Nat.le_trans hlen hn2) hr hF hb (fun H hO hS=>hsp w H a ns hlen hO hS) fun H e s'=>Z1 w H s₁ e s'
end L2
namespace L2
open PySem PySem.Spec PyProof.Rows
noncomputable def bV (s:Stmt):Arguments:=match s with
 | .FunctionDef _ a _ _ _ _ _ _ _ _=>a
 | _=>{ posonlyargs:=[],args:=[],vararg:=none,kwonlyargs:=[],kw_defaults:=[],kwarg:=none,defaults:=[] }
noncomputable def bO (s:Stmt):List Stmt:=match s with
 | .FunctionDef _ _ b _ _ _ _ _ _ _=>b
 | _=>[]
noncomputable def aC (s:Stmt):Scope:=match s with
 | .FunctionDef _ _ _ _ _ _ sc _ _ _=>sc
 | _=>{ kind:=.function,names:=[],isGenerator:=false,isCoroutine:=false }
noncomputable abbrev qO:Jx:=fun _ _ _ _ _ _=>False
noncomputable abbrev E0:XK:=fun _ _ _=>False
theorem S7 {X:Cx}:Passes qO X E0:=fun _ _ _ _ _ _ _ h=>h.elim
structure tZ (K:PySem.W.Frag) (x qual:Str) (st:Stmt) (f:Addr) (fd:FuncData):Prop where
 ex:∃(oc:Value) (od:Option Addr) (kV doc pm:Value) (an:Option Addr) (cdv ct:Value) (osl:Array (Option Value)),
  fd=PySem.W.fnOf x qual (bV st) (bO st) (aC st) .none kV doc pm an cdv ct∧K.lookup f=some ⟨oc,od,.func fd,osl⟩∧PySem.W.codeIn K cdv qual=true
 kp:PySem.W.keepIn K (.ref f)=true
section
variable {P:Program} {w:World} {K:PySem.W.Frag} {mg:Str→Option Value} {base:Heap}
theorem tZ.ok {x qual:Str} {st:Stmt} {f:Addr} {fd:FuncData} {N ps:List Str} {k:Nat} {sp:Sp} (F:tZ K x qual st f fd) (S:bY N ps (aC st)) (len:∀vs H Q E,sp vs H Q E→vs.length=ps.length)
  (hbody:∀(cdv:Value) (A:Around) (outer:List Env) (s:Shared) (H:Hp) (vs:List V) (Q:VK) (E:XK),fH k (A.deeper (envOfC qual (aC st) s.heap.objs.size f cdv))→sp vs H Q E→
   ∃t,tX (DY qO P w K mg base N qual (aC st) f cdv A outer s H E).PX (bO st) t∧t { nx:=fun _ H'=>Q .non H',rt:=Q } (start N vs) H):dM P w K mg base qO (k + 1) f fd ps sp:=by
 obtain ⟨oc,od,kV,doc,pm,an,cdv,ct,osl,rfl,lk,hcd⟩:=F.ex
 refine Xe lk hcd S len fun A outer s H vs Q E hr hsp=>?_
 obtain ⟨t,h,q⟩:=hbody cdv A outer s H vs Q E hr hsp
 exact ⟨t,h.PX,q⟩
theorem tZ.binds {x qual:Str} {st:Stmt} {f:Addr} {fd:FuncData} {ps:List Str} (F:tZ K x qual st f fd)
  (h:∀(kV doc pm:Value) (an:Option Addr) (cdv ct:Value) (us:List Value),us.length=ps.length→bindArgs (PySem.W.fnOf x qual (bV st) (bO st) (aC st) .none kV doc pm an cdv ct) ⟨us,[]⟩=pure (ps.zip us)):Binds K fd ps []:=by
 obtain ⟨oc,od,kV,doc,pm,an,cdv,ct,osl,rfl,lk,hcd⟩:=F.ex
 exact .all (h kV doc pm an cdv ct)
theorem dF {x qual:Str} {st:Stmt} {f:Addr} {oc:Value} {od an:Option Addr} {osl:Array (Option Value)} {kV doc pm cdv ct:Value} (l:K.lookup f=some ⟨oc,od,.func (PySem.W.fnOf x qual (bV st) (bO st) (aC st) .none kV doc pm an cdv ct),osl⟩)
  (c:PySem.W.codeIn K cdv qual=true) (k:PySem.W.keepIn K (.ref f)=true):tZ K x qual st f (PySem.W.fnOf x qual (bV st) (bO st) (aC st) .none kV doc pm an cdv ct):=⟨⟨oc,od,kV,doc,pm,an,cdv,ct,osl,rfl,l,c⟩,k⟩
end
section
variable {X:Cx}
theorem pv (i:Nat) {x:Str} {pos:Pos} (hN:X.N[i]?=some x:=by rfl) (hv:Zt X.env.scope x:=by first | exact Or.inl rfl | exact Or.inr (Or.inl rfl) | exact Or.inr (Or.inr rfl)) (hd:(x==("__debug__":Str))=false:=by decide)
  (hcd:(x==("__classdict__":Str))=false:=by decide):PE X (.Name x pos) (wK i):=Ug hN hv hd hcd
end
theorem wN {A B:Prop} (h:B):if false=true then A else B:=by
 rw [if_neg Bool.false_ne_true]
 exact h
theorem wO {A B:Prop} (h:A):if true=true then A else B:=by
 rw [if_pos rfl]
 exact h
noncomputable def aU (H H':Hp):Prop:=∀b o,H b=some o→H' b=some o
theorem aU.refl (H:Hp):aU H H:=fun _ _ h=>h
theorem aU.trans {H H1 H2:Hp} (a:aU H H1) (b:aU H1 H2):aU H H2:=fun c o h=>b c o (a c o h)
theorem aU.free {H H':Hp} (e:aU H H') {l:Addr} (h:H' l=Option.none):H l=Option.none:=by
 cases q:H l with
 | none=>rfl
 | some o=>
  rw [e l o q] at h
  cases h
theorem aU.seq {K:PySem.W.Frag} {H H':Hp} {a:Addr} {xs:List V} (e:aU H H') (h:cO K H a xs):cO K H' a xs:=by
 rcases h with (h | ⟨o,h⟩) | h
 ·exact .inl (.inl (e _ _ h))
 ·exact .inl (.inr ⟨o,e _ _ h⟩)
 ·exact .inr h
section
variable {X:Cx}
theorem JG:cD X (.builtin "len") (fun xs H Q=>∃a kvs,xs=[V.ref a]∧H a=some (.dK kvs)∧Q (.int kvs.length) H):=by
 intro pins s σ H xs us Q I r h
 obtain ⟨a,kvs,rfl,ha,q⟩:=h
 obtain ⟨u,rfl,ru⟩:=vals1 r
 cases ru
 exact Xo I (.inl ha) fun t s' I'=>⟨.int kvs.length,H,I',⟨t,rfl⟩,q⟩
end
section
variable {κ:Type} [DecidableEq κ]
end
end L2
namespace L2
open PySem PySem.Spec PyProof.Rows
noncomputable def Cx.blk (X:Cx) (N:List Str) (scope:Scope) (cl:List (Str×Addr)) (C:Addr) (s:Shared) (H:Hp) (fp:List Addr):Cx:=
 { X with N:=N,s₀:=s,H₀:=H,env:=compEnvC scope cl C X.env,outer:=X.stack,ex:=fp,fn:=fun _=>false,pn:=[],xe:=fun _ _=>False }
theorem mD {env:Env} (f:Str×NameKind→List (Str×Addr)→Sem (ForInStep (List (Str×Addr))))
  (hf:∀n k r,f (n,k) r=if k==NameKind.free then (do let c ←cellOf env n; pure (.yield ((n,c)::r))) else pure (.yield r)):
  ∀(names:List (Str×NameKind)) (cs:List (Str×Addr)),(∀y∈names,y.2=.free→∃c,env.cells.lookup y.1=some c)→(∀n c,cs.lookup n=some c→env.cells.lookup n=some c)→
   ∃cl,(forIn names cs f:Sem (List (Str×Addr)))=pure cl∧(∀n c,cl.lookup n=some c→env.cells.lookup n=some c)∧
    ∀n,((∃c,cs.lookup n=some c)∨∃y∈names,y.1=n∧y.2=.free)→∃c,cl.lookup n=some c
 | [],cs,_,h2=>⟨cs,rfl,h2,fun n h=>h.elim id fun ⟨_,hy,_⟩=>nomatch hy⟩
 | (n,k)::r,cs,h1,h2=>by
  rw [List.forIn_cons,hf]
  by_cases hk:k=.free
  ·subst hk
   obtain ⟨c,hc⟩:=h1 (n,.free) List.mem_cons_self rfl
   have hc':env.cells.lookup n=some c:=hc
   have e:cellOf env n=pure c:=by unfold cellOf; rw [hc']
   obtain ⟨cl,q1,q2,q3⟩:=mD f hf r ((n,c)::cs) (fun y hy=>h1 y (List.mem_cons_of_mem _ hy)) (fun m d hm=>by
    rw [List.lookup_cons] at hm
    by_cases hb:(m==n)=true
    ·rw [hb] at hm
     have:=eq_of_beq hb
     subst this
     cases hm
     exact hc'
    ·rw [Bool.not_eq_true] at hb
     rw [hb] at hm
     exact h2 m d hm)
   refine ⟨cl,?_,q2,fun m hm=>q3 m ?_⟩
   ·rw [if_pos (show (NameKind.free==NameKind.free)=true from rfl),e]
    simp only [pure_bind]
    exact q1
   ·by_cases hb:m=n
    ·subst hb
     exact .inl ⟨c,by simp [List.lookup_cons]⟩
    ·rcases hm with ⟨d,hm⟩ | ⟨y,hy,e1,e2⟩
     ·refine .inl ⟨d,?_⟩
      rw [List.lookup_cons,beq_eq_false_iff_ne.mpr hb]
      exact hm
     ·rcases List.mem_cons.mp hy with rfl | hy
      ·exact absurd e1.symm hb
      ·exact .inr ⟨y,hy,e1,e2⟩
  ·have hb:(k==NameKind.free)=false:=beq_eq_false_iff_ne.mpr hk
   obtain ⟨cl,q1,q2,q3⟩:=mD f hf r cs (fun y hy=>h1 y (List.mem_cons_of_mem _ hy)) h2
   refine ⟨cl,?_,q2,fun m hm=>q3 m ?_⟩
   ·rw [hb]
    simp only [Bool.false_eq_true,if_false,pure_bind]
    exact q1
   ·rcases hm with hm | ⟨y,hy,e1,e2⟩
    ·exact .inl hm
    ·rcases List.mem_cons.mp hy with rfl | hy
     ·exact absurd e2 hk
     ·exact .inr ⟨y,hy,e1,e2⟩
theorem j5 {env:Env} {scope:Scope} (h1:∀y∈scope.names,y.2=.free→∃c,env.cells.lookup y.1=some c):
  ∃cl,closureFor scope env=pure cl∧(∀n c,cl.lookup n=some c→env.cells.lookup n=some c)∧∀y∈scope.names,y.2=.free→∃c,cl.lookup y.1=some c:=by
 unfold closureFor
 obtain ⟨cl,q1,q2,q3⟩:=mD (env:=env) (fun x r=>if (x.2==NameKind.free)=true then (do let c ←cellOf env x.1; pure (.yield ((x.1,c)::r))) else pure (.yield r)) (fun n k r=>rfl) scope.names [] h1 (fun n c h=>by simp at h)
 have q:=congrArg (fun t:Sem (List (Str×Addr))=>t >>= fun cs=>pure cs) q1
 simp only [pure_bind] at q
 exact ⟨cl,q,q2,fun y hy e=>q3 y.1 (.inr ⟨y,hy,rfl,e⟩)⟩
theorem pZ {scope:Scope} {env:Env} {x:Str}:∀{names:List (Str×NameKind)},
  (names.map fun (n,k)=>if (k==NameKind.free&&env.scope.kind==.function&&env.kindOf n==some .cell) then (n,NameKind.cell) else (n,k)).lookup x=
   (names.lookup x).map fun k=>if (k==NameKind.free&&env.scope.kind==.function&&env.kindOf x==some .cell) then NameKind.cell else k
 | []=>rfl
 | (n,k)::r=>by
  have ih:=@pZ scope env x r
  show List.lookup x ((if (k==NameKind.free&&env.scope.kind==.function&&env.kindOf n==some .cell)=true then (n,NameKind.cell) else (n,k))::_)=_
  cases hx:x==n with
  | true=>
   have e:=eq_of_beq hx
   subst e
   by_cases hc:(k==NameKind.free&&env.scope.kind==.function&&env.kindOf x==some .cell)=true
   ·rw [if_pos hc]; simp only [List.lookup_cons,beq_self_eq_true,Option.map_some,hc,if_true]
   ·rw [if_neg hc]; simp only [List.lookup_cons,beq_self_eq_true,Option.map_some,hc,if_false]; rfl
  | false=>
   by_cases hc:(k==NameKind.free&&env.scope.kind==.function&&env.kindOf n==some .cell)=true
   ·rw [if_pos hc]; simp only [List.lookup_cons,hx]; exact ih
   ·rw [if_neg hc]; simp only [List.lookup_cons,hx]; exact ih
noncomputable def frees (js:List Nat) (σ:St):St:=js.map fun j=>(σ[j]?).join
section
variable {X:Cx} {pins:List (Addr×Obj)} {σ:St} {H:Hp} {s s1:Shared} {NT NF:List Str} {js:List Nat} {scope:Scope} {cl:List (Str×Addr)} {fp:List Addr}
structure jU (X:Cx) (NT NF:List Str) (js:List Nat) (scope:Scope):Prop where
 kind:scope.kind=.function
 names:∀y∈scope.names,y.2=.local→scope.names.lookup y.1=some .local
 cell:∀y∈scope.names,y.2≠.cell
 free:∀y∈scope.names,y.2=.free→X.env.scope.names.lookup y.1=some .cell∨X.env.scope.names.lookup y.1=some .free
 len:js.length=NF.length
 fr:∀(k:Nat) (j:Nat) (x:Str),js[k]?=some j→NF[k]?=some x→X.N[j]?=some x∧scope.names.lookup x=some .free
 tg:∀x∈NT,scope.names.lookup x=some .local
 nd:(NT++NF).Nodup
theorem Inv.blk (I:Inv X pins σ H s) (B:jU X NT NF js scope) (q2:∀n c,cl.lookup n=some c→X.env.cells.lookup n=some c) (q3:∀y∈scope.names,y.2=.free→∃c,cl.lookup y.1=some c)
  (hf:∀b∈fp,iC X pins H b) (hlt:∀b∈fp,b < s.heap.objs.size) {m:Str→Option Value} (hns:s1.heap.Ns s.heap.objs.size m) (keep:∀b o,s.heap.get? b=some o→s1.heap.get? b=some o)
  (hos:s1.os=s.os) (hg:AllBare s1.gens):
  Inv (X.blk (NT++NF) scope cl s.heap.objs.size s H fp) [] (List.replicate NT.length none++frees js σ) H s1:=by
 have look:∀x,(X.blk (NT++NF) scope cl s.heap.objs.size s H fp).env.kindOf x=(scope.names.lookup x).map fun k=>if (k==NameKind.free&&X.env.scope.kind==.function&&X.env.kindOf x==some .cell) then NameKind.cell else k:=fun x=>pZ (scope:=scope)
 have Vb:∀x,((X.blk (NT++NF) scope cl s.heap.objs.size s H fp).env.kindOf x=some .cell∨(X.blk (NT++NF) scope cl s.heap.objs.size s H fp).env.kindOf x=some .free)→scope.names.lookup x=some .free:=fun x h=>by
  rw [look] at h
  cases e:scope.names.lookup x with
  | none=>rw [e] at h; simp at h
  | some k=>
   rw [e] at h
   by_cases hk:k=.free
   ·rw [hk]
   ·have hb:(k==NameKind.free)=false:=beq_eq_false_iff_ne.mpr hk
    simp only [Option.map_some,hb,Bool.false_and,Bool.false_eq_true,if_false,Option.some.injEq] at h
    rcases h with h | h
    ·subst h
     exact absurd rfl (B.cell _ (PySem.mem_of_lookup e))
    ·exact absurd h hk
 have ltC:∀c x,X.env.cells.lookup x=some c→c < s.heap.objs.size:=fun c x e=>by
  obtain ⟨v,q⟩:=I.cell x c e
  exact q.lt
 refine ⟨⟨I.ok.mod,B.kind,I.ok.glob,I.ok.blt,Nat.le_refl _,fun x y c h1 h2=>I.ok.inj x y c (q2 x c h1) (q2 y c h2),fun x hx=>?_,fun x c h _=>(nomatch (show false=true from h)),I.ok.hd,I.ok.frames,.inl rfl,fun b hb=>⟨Nat.ne_of_lt (hlt b hb),fun x c e=>(hf b hb).2.2.2.2.1 x c (q2 x c e)⟩,I.bs,Nat.le_trans I.ok.Pq I.sz,fun b o e hb=>?_,fun b hb hb2=>?_,I.stack,I.GD⟩,
  hos,hg,Un.kept keep,⟨m,hns,fun i x v h1 h2 h3=>?_⟩,fun x c e=>?_,I.hok.fresh (Nat.le_refl _),fun x c e=>I.lY x c (q2 x c e),fun p hp=>(nomatch (show p∈([]:List (Addr×Obj)) from hp)),I.hok.kept keep,?_⟩
 ·exact q3 _ (PySem.mem_of_lookup (Vb x hx)) rfl
 ·rcases (hf b hb).2.2.2.1 with z | z
  ·exact I.ok.KZ b o e z
  ·exact absurd (Nat.lt_of_lt_of_le (Heap.lt_size e) (Nat.le_trans I.ok.Pq z)) (Nat.lt_irrefl _)
 ·obtain ⟨_,f1,f2,_⟩:=hf b hb
  rcases List.mem_cons.mp (I.qU b hb2) with z | z
  ·exact f1 z
  ·exact f2 z
 ·have h1':(NT++NF)[i]?=some x:=h1
  by_cases hi:i < NT.length
  ·rw [List.getElem?_append_left (by simpa using hi),List.getElem?_replicate] at h2
   split at h2 <;> cases h2
  ·have hi':NT.length≤i:=by omega
   rw [List.getElem?_append_right (by simpa using hi')] at h2
   rw [List.getElem?_append_right hi'] at h1'
   simp only [List.length_replicate] at h2
   unfold frees at h2
   rw [List.getElem?_map] at h2
   cases ej:js[i - NT.length]? with
   | none=>rw [ej] at h2; cases h2
   | some j=>
    rw [ej] at h2
    have h2':(σ[j]?).join=some v:=by simpa using h2
    obtain ⟨g1,g2⟩:=B.fr _ j x ej h1'
    have hj:σ[j]?=some (some v):=by
     cases e:σ[j]? with
     | none=>rw [e] at h2'; cases h2'
     | some o=>rw [e] at h2'; simp at h2'; rw [h2']
    have hk:=B.free _ (PySem.mem_of_lookup g2) rfl
    have hk':X.env.scope.names.lookup x=some .cell∨X.env.scope.names.lookup x=some .free:=hk
    obtain ⟨m0,hn0,hl0⟩:=I.loc
    obtain ⟨u,r,l⟩:=hl0 j x v g1 hj (.inr hk')
    refine ⟨u,r,.inr ⟨?_,?_⟩⟩
    ·rw [look,g2]
     by_cases hc:(NameKind.free==NameKind.free&&X.env.scope.kind==.function&&X.env.kindOf x==some .cell)=true
     ·left
      simp only [Option.map_some,hc,if_true]
     ·right
      simp only [Option.map_some,hc,if_false]
      rfl
    ·rcases l with ⟨k0,_⟩ | ⟨_,c,e,z⟩
     ·have k0':X.env.scope.names.lookup x=some .local:=k0
      rcases hk' with z | z <;> rw [z] at k0' <;> cases k0'
     ·obtain ⟨c',hc'⟩:=q3 _ (PySem.mem_of_lookup g2) rfl
      have hc2:cl.lookup x=some c':=hc'
      have e2:=q2 x c' hc2
      rw [e] at e2
      cases e2
      obtain ⟨o,ho,hd⟩:=z
      exact ⟨c,hc2,o,keep c o ho,hd⟩
 ·obtain ⟨v,o,ho,hd⟩:=I.cell x c (q2 x c e)
  exact ⟨v,o,keep c o ho,hd⟩
 ·show (List.replicate NT.length none++frees js σ).length=(NT++NF).length
  unfold frees
  simp [B.len]
theorem Inv.LQ {N:List Str} {σ':St} {H':Hp} {s':Shared} {GJ:List (Addr×Obj)} (I:Inv X pins σ H s) (hf:∀b∈fp,iC X pins H b) (J:Inv (X.blk N scope cl s.heap.objs.size s H fp) GJ σ' H' s'):Inv X pins σ H' s':=
 I.call' J.os J.base J.hok J.bare fun b hb=>⟨(hf b hb).2.2.2.1,(hf b hb).2.1,(hf b hb).2.2.2.2.1,(hf b hb).2.2.2.2.2⟩
end
end L2
namespace L2
open PySem PySem.Spec PyProof.Rows
theorem Qs {α:Type} (a:List α) (x y:α) (b:List α) {n:Nat} (h:a.length=n):(a++x::b).set n y=a++y::b:=by
 subst h
 rw [List.set_append_right _ _ (Nat.le_refl _),Nat.sub_self]
 rfl
inductive n6 where
 | one | many (n:Nat)
noncomputable def S8 (K:PySem.W.Frag):n6→V→Hp→List V→Prop
 | .one,x,_,vs=>vs=[x]
 | .many n,x,H,vs=>∃a,x=.ref a∧eX K H a vs∧vs.length=n
noncomputable def isNm (e:Expr) (x:Str):Prop:=∃pos,e=.Name x pos
noncomputable def p6 (tg:Expr) (NT:List Str):n6→Prop
 | .one=>∃x,isNm tg x∧NT=[x]
 | .many n=>∃es k pos,tg=.Tuple es k pos∧Paired isNm es NT∧NT.length=n
theorem uC {env:Env}:∀{es:List Expr} {NT:List Str},Paired isNm es NT→assignEach es env=es.map fun e=>(false,assign e env)
 | _,_,.nil=>rfl
 | _,_,.cons ⟨pos,e⟩ t=>by
  subst e
  show (false,assign _ env)::assignEach _ env=_
  rw [uC t]
  rfl
section
variable {X:Cx} {pins:List (Addr×Obj)} {H:Hp} {E:Value→Shared→Prop}
theorem JH {NT:List Str} {es:List Expr} (p:Paired isNm es NT):∀{pre NF:List Str} {σp fs:St} {s:Shared} {vs:List V} {us:List Value} {Q:Unit→Shared→Prop},
  X.N=pre++NT++NF→X.N.Nodup→(∀x∈NT,X.env.scope.names.lookup x=some .local)→σp.length=pre.length→vs.length=NT.length→
  Inv X pins (σp++(List.replicate NT.length none++fs)) H s→Vals vs us→(∀s',Inv X pins (σp++(vs.map some++fs)) H s'→Q () s')→
  wpAny (model X.prog X.w) X.A (assignInOrder (es.map fun e=>assign e X.env) us) Q E s:=by
 induction p with
 | nil=>
  intro pre NF σp fs s vs us Q hN nd hl hp hv I r q
  cases vs with
  | cons _ _=>simp at hv
  | nil=>
   cases r
   exact assignInOrder_nil (q s I)
 | @cons e x es NT he t ih=>
  intro pre NF σp fs s vs us Q hN nd hl hp hv I r q
  cases vs with
  | nil=>simp at hv
  | cons v vs=>
   cases r with
   | cons r rr=>
    obtain ⟨pos,rfl⟩:=he
    have hx:=hl x List.mem_cons_self
    have hi:X.N[pre.length]?=some x:=by
     rw [hN,List.append_assoc,List.getElem?_append_right (Nat.le_refl _)]
     simp
    refine assignInOrder_cons (wpAny_assign_Name (jP I nd hi (.inl hx) r (fun s' I'=>?_) (.inr hx)))
    have e1:(σp++(List.replicate (x::NT).length none++fs)).set pre.length (some v)=(σp++[some v])++(List.replicate NT.length none++fs):=by
     exact (Qs σp none (some v) (List.replicate NT.length none++fs) hp).trans (List.append_cons σp (some v) (List.replicate NT.length none++fs))
    rw [e1] at I'
    refine ih (pre:=pre++[x]) (NF:=NF) (σp:=σp++[some v]) (by rw [hN]; simp) nd (fun y hy=>hl y (List.mem_cons_of_mem _ hy)) (by simp [hp]) (by simpa using hv) I' rr fun s2 I2=>q s2 ?_
    have e2:σp++[some v]++(vs.map some++fs)=σp++((v::vs).map some++fs):=by simp
    rw [e2] at I2
    exact I2
theorem Vc {tg:Expr} {NT NF:List Str} {T:n6} {fs:St} {s:Shared} {v:V} {u:Value} {vs:List V} {Q:Unit→Shared→Prop} (tk:p6 tg NT T) (hN:X.N=NT++NF) (nd:X.N.Nodup) (hc:X.calm=true)
  (hl:∀x∈NT,X.env.scope.names.lookup x=some .local) (I:Inv X pins (List.replicate NT.length none++fs) H s) (r:RelV v u) (hv:S8 X.K T v H vs)
  (q:∀s',Inv X pins (vs.map some++fs) H s'→Q () s'):wpAny (model X.prog X.w) X.A (assign tg X.env u) Q E s:=by
 cases T with
 | one=>
  obtain ⟨x,⟨pos,rfl⟩,rfl⟩:=tk
  have hv':vs=[v]:=hv
  subst hv'
  have hx:=hl x List.mem_cons_self
  exact wpAny_assign_Name (jP I nd (i:=0) (by rw [hN]; rfl) (.inl hx) r (fun s' I'=>q s' I') (.inr hx))
 | many n=>
  obtain ⟨es,k,pos,rfl,p,hn⟩:=tk
  obtain ⟨a,rfl,hq,hlen⟩:=hv
  cases r
  obtain ⟨its,rv,ht,hz⟩:=I.tuple hq
  have e:=uC (env:=X.env) p
  have hpl:=p.length
  refine assign_Tuple_tuple (I.ok.hd hc) ht (by rw [e]; simp only [List.length_map,List.size_toArray]; rw [←rv.length]; omega) (by rw [e]; simp) fun h' hx=>?_
  have I1:Inv X pins (List.replicate NT.length none++fs) H { s with heap:=h' }:=I.kept (t':=s.toks) fun b o e=>hx b o (Nat.ne_of_lt (Heap.lt_size e)) e
  rw [e,List.map_map]
  exact JH p (pre:=[]) (σp:=[]) (by rw [hN]; rfl) nd hl rfl (by omega) I1 (by simpa using rv) q
end
noncomputable def turnOf (target iter:Expr) (ifs:List Expr) (it:Value) (env:Env) (emit:Sem Unit) (more:Sem PySem.Fin):Sem PySem.Fin:=do
 standAt iter.pos
 match ←pyNext it with
 | none=>pure (.done .next)
 | some v=>
  letOwnedTupleGo target it v
  assign target env v
  let mut ok:=true
  for c in ifs do
   if ok then ok ←isTrue c env (eval c env)
  if ok then emit
  more
theorem Ei (elt target iter:Expr) (ifs:List Expr) (scope:Scope) (pos:Pos) (it acc:Value) (env:Env):
  compTurn (.ListComp elt [⟨target,iter,ifs,0⟩] scope pos) 0 it acc env=turnOf target iter ifs it env (do let _ ←call (.builtin "list.append") [acc,←eval elt env]) (again (.compLoop (.ListComp elt [⟨target,iter,ifs,0⟩] scope pos) 0 it acc env)):=by rfl
theorem Ej (kx vx target iter:Expr) (ifs:List Expr) (scope:Scope) (pos:Pos) (it:Value) (D:Addr) (env:Env):
  compTurn (.DictComp kx vx [⟨target,iter,ifs,0⟩] scope pos) 0 it (.ref D) env=turnOf target iter ifs it env (do
      let kv ←eval kx env
      let vv ←holding [kv] (eval vx env)
      standAt { kx.pos with endLine:=vx.pos.endLine,endCol:=vx.pos.endCol }
      holding [kv,vv] (dictSet D kv vv)) (again (.compLoop (.DictComp kx vx [⟨target,iter,ifs,0⟩] scope pos) 0 it (.ref D) env)):=by rfl
theorem JK (elt target iter:Expr) (ifs:List Expr) (scope:Scope) (pos:Pos) (it acc:Value) (env:Env):
  compTurn (.SetComp elt [⟨target,iter,ifs,0⟩] scope pos) 0 it acc env=turnOf target iter ifs it env (do let v ←eval elt env; standAt elt.pos; let _ ←call (.builtin "set.add") [acc,v]) (again (.compLoop (.SetComp elt [⟨target,iter,ifs,0⟩] scope pos) 0 it acc env)):=by rfl
noncomputable def Du (X:Cx) (ifs:List Expr) (t:TT):Prop:=
 ∀(pins:List (Addr×Obj)) (s:Shared) (σ:St) (H:Hp) (Q:Bool→Hp→Prop),Inv X pins σ H s→t σ H Q→
  wpAny (model X.prog X.w) X.A (forIn ifs true fun c r=>if r=true then do let ok ←isTrue c X.env (eval c X.env); pure (ForInStep.yield ok) else pure (ForInStep.yield r)) (TP X pins σ Q) X.xe s
noncomputable def Z2:TT:=fun _ H Q=>Q true H
theorem Qt {X:Cx}:Du X [] Z2:=fun _ _ _ H _ I h=>wpAny_tests_nil ⟨H,I,h⟩
theorem Qu {X:Cx} {c:Expr} {t:TT} (h:PT X c t):Du X [c] t:=fun pins s σ H Q I q=>wpAny_tests_one (h pins s σ H Q I q)
noncomputable abbrev TM:=St→Hp→(Hp→Prop)→Prop
noncomputable def PM (X:Cx) (emit:Sem Unit) (t:TM):Prop:=
 ∀(pins:List (Addr×Obj)) (s:Shared) (σ:St) (H:Hp) (Q:Hp→Prop),Inv X pins σ H s→t σ H Q→
  wpAny (model X.prog X.w) X.A emit (fun _ s'=>∃H',Inv X pins σ H' s'∧Q H') X.xe s
noncomputable def zm (D:Addr) (te:TE):TM:=fun σ H Q=>te σ H fun y H1=>∃xs,H1 D=some (.lst xs)∧xs.length < sizeLine∧Q (upd H1 D (.lst (xs++[y])))
theorem JL {X:Cx} {D:Addr} {elt:Expr} {te:TE} (he:PE X elt te):PM X (do let _ ←call (.builtin "list.append") [.ref D,←eval elt X.env]) (zm D te):=by
 intro pins s σ H Q I h
 refine wpAny_bind (cU (he pins s σ H _ I h) fun v s1 aV=>?_)
 obtain ⟨y,H1,I1,r1,xs,hD,hz,q⟩:=aV
 refine wpAny_bind (cU (xP (X:=X) pins s1 σ H1 (.ref D) [y] (.ref D) [v] (fun _ H'=>Q H') I1 rfl (.cons r1 .nil) ⟨D,xs,y,rfl,rfl,hD,hz,q⟩) fun _ s2 ⟨_,H2,I2,_,q2⟩=>wpAny_pure ⟨H2,I2,q2⟩)
noncomputable def Ek (K:PySem.W.Frag) (T:n6) (ts:TT) (em:TM) (fs:St) (J:It) (H0:Hp) (done:Hp→Prop):Prop:=
 ∃W:Nat→Nat→Hp→Prop,(∃m,W 0 m H0)∧∀i m H,W i m H→
  (J.stop i H∧done H)∨(J.go i H∧∀x H',J.Sv i H x H'→∃vs,S8 K T x H' vs∧
   ts (vs.map some++fs) H' fun b H2=>if b=true then em (vs.map some++fs) H2 fun H3=>∃m',m' < m∧W (i + 1) m' H3 else ∃m',m' < m∧W (i + 1) m' H2)
section
variable {X:Cx} {NT NF:List Str} {tg iter e:Expr} {ifs:List Expr} {T:n6} {ts:TT} {em:TM} {emit:Sem Unit} {acc:Value} {fp:List Addr} {it:Addr} {J:It} {tn:Nat→Heap→Prop}
theorem LR {fs:St} {vs:List V} {pins:List (Addr×Obj)} {H:Hp} {s:Shared} (hv:vs.length=NT.length) (I:Inv X pins (vs.map some++fs) H s):Inv X pins (List.replicate NT.length none++fs) H s:=
 I.weak (by simp [hv]) fun i v h=>by
  by_cases hi:i < NT.length
  ·rw [List.getElem?_append_left (by simpa using hi),List.getElem?_replicate] at h
   split at h <;> cases h
  ·rw [List.getElem?_append_right (by simp; omega)] at h ⊢
   simpa [hv] using h
theorem S8.len {tg:Expr} {K:PySem.W.Frag} {x:V} {H:Hp} {vs:List V} (tk:p6 tg NT T) (h:S8 K T x H vs):vs.length=NT.length:=by
 cases T with
 | one=>obtain ⟨y,_,rfl⟩:=tk; rw [show vs=[x] from h]; rfl
 | many n=>obtain ⟨_,_,_,_,_,e⟩:=tk; obtain ⟨_,_,_,e'⟩:=h; omega
theorem uD {R:Result→Shared→Prop} {fs:St} {H:Hp} {s:Shared} {done:Hp→Prop} (hx:X.xe=fun _ _=>False) (hT:compTurn e 0 (.ref it) acc X.env=turnOf tg iter ifs (.ref it) X.env emit (again (.compLoop e 0 (.ref it) acc X.env)))
  (hq:(Code.compLoop e 0 (.ref it) acc X.env).isFrame=false) (hqu:(Code.compLoop e 0 (.ref it) acc X.env).quiet=true) (hA:X.A.under (Code.compLoop e 0 (.ref it) acc X.env)=X.A)
  (tk:p6 tg NT T) (hN:X.N=NT++NF) (nd:X.N.Nodup) (hc:X.calm=true) (hl:∀x∈NT,X.env.scope.names.lookup x=some .local)
  (hts:Du X ifs ts) (hem:PM X emit em) (TT:Turn X.prog X.w X.K tg J fp it tn) (hf:∀b∈fp,iC X [] H b) (I:Inv X [] (List.replicate NT.length none++fs) H s) (st:tn 0 s.heap) (hb:Ek X.K T ts em fs J H done)
  (hR:∀H' s' σ',Inv X [] σ' H' s'→done H'→R (.ok .next) s'):
  codeAny (model X.prog X.w) X.A (.compLoop e 0 (.ref it) acc X.env) R s:=by
 obtain ⟨W,⟨m0,w0⟩,turn⟩:=hb
 have stat:∀{H':Hp},(∀b∈fp,H' b=none)→∀b∈fp,iC X [] H' b:=fun hn b hb=>⟨hn b hb,(hf b hb).2⟩
 have noE:∀{α:Type} {t:Sem α} {Q:α→Shared→Prop} {E:Value→Shared→Prop} {s:Shared},wpAny (model X.prog X.w) X.A t Q (fun _ _=>False) s→wpAny (model X.prog X.w) X.A t Q E s:=fun h=>wpAny_mono h (fun _ _ z=>z) fun _ _ z=>z.elim
 have noX:∀{α:Type} {t:Sem α} {Q:α→Shared→Prop} {E:Value→Shared→Prop} {s:Shared},wpAny (model X.prog X.w) X.A t Q X.xe s→wpAny (model X.prog X.w) X.A t Q E s:=fun h=>noE (by rw [hx] at h; exact h)
 refine codeAny_loop hqu (fun n s'=>∃i H',Inv X [] (List.replicate NT.length none++fs) H' s'∧tn i s'.heap∧(∀b∈fp,H' b=none)∧W i n H') ?_ m0 ⟨0,H,I,st,fun b hb=>(hf b hb).1,w0⟩
 rintro n s3 ⟨i,H3,I3,st3,W2,w3⟩
 rw [hA]
 show wpAny _ X.A (if (Code.compLoop e 0 (.ref it) acc X.env).isFrame=true then (compTurn e 0 (.ref it) acc X.env).onRaise (leaving X.env) else (compTurn e 0 (.ref it) acc X.env).onRaise (fun x=>do noteFrame x X.env; theTreesLotGoes x)) _ _ s3
 rw [hq,if_neg Bool.false_ne_true]
 refine wpAny_noted (noE ?_)
 rw [hT]
 unfold turnOf
 refine wpAny_bind (wpAny_standAt (wpAny_bind ?_))
 rcases turn i n H3 w3 with ⟨stop,qn⟩ | ⟨go,step⟩
 ·refine cU (TT.done X rfl rfl rfl hc i [] s3 _ H3 _ I3 (stat W2) st3 stop) fun r s4 aV=>?_
  obtain ⟨hr,I4⟩:=aV
  subst hr
  exact wpAny_pure (hR H3 s4 _ I4 qn)
 ·refine cU (TT.item X rfl rfl rfl hc i [] s3 _ H3 _ I3 (stat W2) st3 go) fun r s4 aV=>?_
  obtain ⟨u,hr,h4⟩:=aV
  subst hr
  refine wpAny_bind (cU h4 fun _ s5 aV=>?_)
  obtain ⟨x,H5,I5,r5,y5,Us,ZL⟩:=aV
  have ZM:=I5.pinned (stat ZL) (TT.obj _ _ Us)
  obtain ⟨vs,hv,q5⟩:=step x H5 y5
  have hvl:=S8.len tk hv
  refine wpAny_bind (Vc tk hN nd hc hl ZM r5 hv fun s6 I6=>?_)
  refine wpAny_bind (noX (cU (hts _ s6 _ H5 _ I6 q5) fun b s7 aV=>?_))
  obtain ⟨H7,I7,q7⟩:=aV
  have Ma:∀{s8:Shared} {H8:Hp},Inv X ([]++ux fp s5.heap) (vs.map some++fs) H8 s8→(∃m',m' < n∧W (i + 1) m' H8)→
    (Code.compLoop e 0 (.ref it) acc X.env=Code.compLoop e 0 (.ref it) acc X.env)∧∃m,m < n∧∃i H',Inv X [] (List.replicate NT.length none++fs) H' s8∧tn i s8.heap∧(∀b∈fp,H' b=none)∧W i m H':=fun {s8 H8} I8 n8=>by
   obtain ⟨m',hm,w8⟩:=n8
   refine ⟨rfl,m',hm,i + 1,H8,LR hvl I8.pP,TT.keep _ _ _ Us fun b hb o e=>(I8.pin (b,o) (List.mem_append_right _ (List.mem_append_right _ (j4 hb e)))).1,fun b hb=>?_,w8⟩
   obtain ⟨o,e,d⟩:=TT.obj _ _ Us b hb
   exact (I8.pin (b,o) (List.mem_append_right _ (List.mem_append_right _ (j4 hb e)))).2.1
  cases b with
  | false=>exact wpAny_pure (Ma I7 q7)
  | true=>exact wpAny_bind (noX (cU (hem _ s7 _ H7 _ I7 q7) fun _ s8 ⟨H8,I8,q8⟩=>wpAny_pure (Ma I8 q8)))
end
end L2
namespace L2
open PySem PySem.Spec PyProof.Rows
structure Bk where
 cl:List (Str×Addr)
 C:Addr
 s:Shared
 H:Hp
 fp:List Addr
noncomputable abbrev Cx.bk (X:Cx) (N:List Str) (scope:Scope) (b:Bk):Cx:=X.blk N scope b.cl b.C b.s b.H b.fp
section
variable {X:Cx} {NT NF:List Str} {js:List Nat} {elt kx vx tg iter e:Expr} {ifs:List Expr} {T:n6} {wi:TI} {ts:Bk→TT} {te tk' tv:Bk→TE} {scope:Scope} {pos:Pos}
noncomputable def Z3 (K:PySem.W.Frag) (wi:TI) (T:n6) (ts:Bk→TT) (te:Bk→TE) (js:List Nat):TE:=fun σ H Q=>wi σ H fun J H1=>∀D,H1 D=none→∀b,Ek K T (ts b) (zm D (te b)) (frees js σ) J (upd H1 D (.lst [])) (Q (.ref D))
theorem Mf {pins:List (Addr×Obj)} {σ:St} {s2:Shared} {H2:Hp} {cl:List (Str×Addr)} {it:Addr} {fp:List Addr} {tn:Nat→Heap→Prop} {J:It} {Q:Hp→Prop} {RR:Value→Addr→Result→Shared→Prop} {E:Value→Shared→Prop}
  (B:jU X NT NF js scope) (tk:p6 tg NT T) (hc:X.calm=true)
  (hin:∀b,Du (X.bk (NT++NF) scope b) ifs (ts b)∧PE (X.bk (NT++NF) scope b) elt (te b))
  (q2:∀n c,cl.lookup n=some c→X.env.cells.lookup n=some c) (q3:∀y∈scope.names,y.2=.free→∃c,cl.lookup y.1=some c)
  (I2:Inv X pins σ H2 s2) (TT:Turn X.prog X.w X.K tg J fp it tn) (st2:tn 0 s2.heap) (f2:∀b∈fp,iC X pins H2 b)
  (q:∀b,Ek X.K T (ts b) (zm s2.heap.objs.size (te b)) (frees js σ) J (upd H2 s2.heap.objs.size (.lst [])) Q)
  (hR:∀C H' s' m,Inv X pins σ H' s'→iC X pins H' C→s'.heap.Ns C m→Q H'→RR (.ref s2.heap.objs.size) C (.ok .next) s'):
  wpAny (model X.prog X.w) X.A (newList []) (fun acc s₃=>wpAny (model X.prog X.w) X.A (newFunctionEnv scope X.env.globals cl [] X.env.qual none .none (some X.env)) (fun cenv s₄=>
   codeAny (model X.prog X.w) X.A (.compStart (.ListComp elt [⟨tg,iter,ifs,0⟩] scope pos) 0 (.ref it) acc { cenv with scope:=relabel scope X.env }) (RR acc cenv.locals) s₄) E s₃) E s2:=by
 refine wpAny_newObj_type ?_
 have hD:H2 s2.heap.objs.size=none:=I2.hok.fresh (Nat.le_refl _)
 have I3:Inv X pins σ (upd H2 s2.heap.objs.size (.lst [])) { s2 with heap:=s2.heap.push { cls:=.type "list",dict:=none,data:=.seq ([]:List Value).toArray } }:=
  I2.laid (t':=s2.toks) (fun b o e=>Heap.get?_push_of_some _ e) (Nat.le_refl _) ⟨Nat.zero_le _,[],0,.nil,Heap.get?_push_size _ rfl⟩
 have hsz:(s2.heap.push { cls:=.type "list",dict:=none,data:=.seq ([]:List Value).toArray }).objs.size=s2.heap.objs.size + 1:=Heap.size_push ..
 refine wpAny_newFunctionEnv B.cell (by intro y hy; simp at hy) (fun h₁ hns₁ hsb₁=>?_) B.kind
 have KJ:∀b∈fp,b < s2.heap.objs.size:=fun b hb=>by
  obtain ⟨o,e,_⟩:=TT.obj 0 _ st2 b hb
  exact Heap.lt_size e
 have f3:∀b∈fp,iC X pins (upd H2 s2.heap.objs.size (.lst [])) b:=fun b hb=>⟨by rw [aJ (Nat.ne_of_lt (KJ b hb))]; exact (f2 b hb).1,(f2 b hb).2⟩
 have keep:∀b o,(s2.heap.push { cls:=.type "list",dict:=none,data:=.seq ([]:List Value).toArray }).get? b=some o→h₁.get? b=some o:=fun b o e=>
  hsb₁.extBut b o (Nat.ne_of_lt (Heap.lt_size e)) (Heap.get?_push_of_some _ e)
 have S9:∀b∈fp,b < (s2.heap.push { cls:=.type "list",dict:=none,data:=.seq ([]:List Value).toArray }).objs.size:=fun b hb=>by have:=KJ b hb; rw [hsz]; exact Nat.lt_succ_of_lt this
 have I4:=I3.blk (s1:={ s2 with heap:=h₁,toks:=s2.toks + ([]:List (Str×Value)).length }) B q2 q3 f3 S9 hns₁ keep rfl I2.bare
 have Tc:tn 0 h₁:=TT.keep 0 _ _ st2 fun b _ o e=>keep b o (Heap.get?_push_of_some _ e)
 obtain ⟨i1,i2⟩:=hin ⟨cl,(s2.heap.push { cls:=.type "list",dict:=none,data:=.seq ([]:List Value).toArray }).objs.size,{ s2 with heap:=s2.heap.push { cls:=.type "list",dict:=none,data:=.seq ([]:List Value).toArray } },upd H2 s2.heap.objs.size (.lst []),fp⟩
 have loop:codeAny (model X.prog X.w) X.A (.compLoop (.ListComp elt [⟨tg,iter,ifs,0⟩] scope pos) 0 (.ref it) (.ref s2.heap.objs.size) (compEnvC scope cl (s2.heap.push { cls:=.type "list",dict:=none,data:=.seq ([]:List Value).toArray }).objs.size X.env))
   (RR (.ref s2.heap.objs.size) (s2.heap.push { cls:=.type "list",dict:=none,data:=.seq ([]:List Value).toArray }).objs.size) { s2 with heap:=h₁,toks:=s2.toks + ([]:List (Str×Value)).length }:=by
  refine uD (X:=X.blk (NT++NF) scope cl (s2.heap.push { cls:=.type "list",dict:=none,data:=.seq ([]:List Value).toArray }).objs.size { s2 with heap:=s2.heap.push { cls:=.type "list",dict:=none,data:=.seq ([]:List Value).toArray } } (upd H2 s2.heap.objs.size (.lst [])) fp)
   (T:=T) (fs:=frees js σ) (done:=Q) rfl (Ei elt tg iter ifs scope pos _ _ _) rfl rfl rfl tk rfl B.nd hc (fun x hx=>lookup_relabel_local (B.tg x hx)) i1 (JL i2) TT (fun b hb=>?_) I4 Tc (q _) fun H' s' σ' J' qd=>?_
  ·exact ⟨(f3 b hb).1,Nat.ne_of_lt (S9 b hb),fun hb2=>by
    rcases List.mem_cons.mp (I3.qU b hb2) with z | z
    ·exact (f3 b hb).2.1 z
    ·exact (f3 b hb).2.2.1 z,.inl hb,fun x c e=>(f3 b hb).2.2.2.2.1 x c (q2 x c e),fun p hp=>(nomatch (show p∈([]:List (Addr×Obj)) from hp))⟩
  ·obtain ⟨m,hn,_⟩:=J'.loc
   exact hR _ H' s' m (I3.LQ f3 J') (I3.yU (Nat.le_refl _) J'.free) hn qd
 exact codeAny_compStart_list loop (TT.self _ 0 _ _ _ Tc loop)
theorem Xp (B:jU X NT NF js scope) (tk:p6 tg NT T) (hc:X.calm=true) (hi:PI X tg iter wi)
  (hin:∀b,Du (X.bk (NT++NF) scope b) ifs (ts b)∧PE (X.bk (NT++NF) scope b) elt (te b))
  (hs:∀x,foldedSetIterable iter X.env x=pure x:=by intro _; rfl):PE X (.ListComp elt [⟨tg,iter,ifs,0⟩] scope pos) (Z3 X.K wi T ts te js):=by
 intro pins s σ H Q I h
 obtain ⟨cl,hclos,q2,q3⟩:=j5 (env:=X.env) (scope:=scope) fun y hy e=>I.ok.has y.1 (B.free y hy e)
 rw [eval_ListComp]
 refine wpAny_comprehension_free (use:=none) rfl hs hclos B.kind B.names (cU (hi pins s σ H _ I h) fun v s1 h1=>cU h1 fun itv s2 aV=>?_)
 obtain ⟨it,fp,tn,J,H2,e,I2,TT,st2,f2,q⟩:=aV
 subst e
 refine Mf (Q:=fun H'=>Q (.ref s2.heap.objs.size) H') (RR:=fun acc C=>compPost (model X.prog X.w) X.A X.xe none (EP X pins σ Q) acc C) B tk hc hin q2 q3 I2 TT st2 f2 (q _ (I2.hok.fresh (Nat.le_refl _))) fun C H' s' m I' fC hn qd=>?_
 refine ⟨m,hn,fun h' sb=>⟨.ref s2.heap.objs.size,H',?_,rfl,qd⟩⟩
 exact I'.turned (t':=s'.toks) (fun b o hb e=>(sb.2 b hb).trans e) fC.1 fC.2.1 fC.2.2.2.1 fC.2.2.2.2.1 fC.2.2.2.2.2
theorem Mg {i:Nat} {y:Str} {pos' spos:Pos} (B:jU X NT NF js scope) (tk:p6 tg NT T) (hc:X.calm=true) (hi:PI X tg iter wi)
  (hin:∀b,Du (X.bk (NT++NF) scope b) ifs (ts b)∧PE (X.bk (NT++NF) scope b) elt (te b))
  (hsw:swapsWith (.ListComp elt [⟨tg,iter,ifs,0⟩] scope pos) (some (.Name y pos')) spos.line X.env=pure true)
  (hN:X.N.Nodup) (hI:X.N[i]?=some y) (hy:X.env.scope.names.lookup y=some .local)
  (hs:∀x,foldedSetIterable iter X.env x=pure x:=by intro _; rfl):PS X (.Assign [.Name y pos'] (.ListComp elt [⟨tg,iter,ifs,0⟩] scope pos) spos) (Jm (Z3 X.K wi T ts te js) (sU i)):=by
 intro pins s σ H D I h
 obtain ⟨cl,hclos,q2,q3⟩:=j5 (env:=X.env) (scope:=scope) fun y hy e=>I.ok.has y.1 (B.free y hy e)
 rw [exec_Assign_Name_used _ _ _ _ hsw]
 refine wpAny_bind (wpAny_standAt (wpAny_bind ?_))
 show wpAny _ X.A (do let _ ←comprehension (.ListComp elt [⟨tg,iter,ifs,0⟩] scope pos) scope X.env _ (newList []) false (eval iter X.env) (some (assign (.Name y pos') X.env))) _ _ s
 refine wpAny_bind (wpAny_mono (wpAny_comprehension_free (use:=some (assign (.Name y pos') X.env)) (Q:=fun _ s'=>SP X pins D .next s') rfl hs hclos B.kind B.names
  (cU (hi pins s σ H _ I h) fun v s1 h1=>cU h1 fun itv s2 ⟨it,fp,tn,J,H2,e,I2,TT,st2,f2,q⟩=>?_)) (fun _ s' hq=>wpAny_pure (wpAny_pure hq)) fun _ _ e=>e)
 subst e
 refine Mf (Q:=fun H'=>D.nx (σ.set i (some (.ref s2.heap.objs.size))) H') (RR:=fun acc C=>compPost (model X.prog X.w) X.A X.xe (some (assign (.Name y pos') X.env)) (fun _ s'=>SP X pins D .next s') acc C) B tk hc hin q2 q3 I2 TT st2 f2 (q _ (I2.hok.fresh (Nat.le_refl _))) fun C H' s' m I' fC hn qd=>?_
 show wpAny _ X.A (assign (.Name y pos') X.env (.ref s2.heap.objs.size)) _ _ _
 refine wpAny_assign_Name (qW I' hN hI (.inl hy) (v:=.ref s2.heap.objs.size) rfl (fun s3 I3 aV=>?_) (.inr hy))
 obtain ⟨a,sb,ha⟩:=aV
 have Z4:C≠a:=by
  rcases ha with z | z
  ·rw [z]; exact fC.2.1
  ·exact fun w=>fC.2.2.2.2.1 y a z w.symm
 refine ⟨m,hn.sameBut sb Z4,fun h' sb'=>⟨_,H',?_,qd⟩⟩
 exact I3.turned (t':=s3.toks) (fun b o hb e=>(sb'.2 b hb).trans e) fC.1 fC.2.1 fC.2.2.2.1 fC.2.2.2.2.1 fC.2.2.2.2.2
end
end L2
namespace L2
open PySem PySem.Spec PyProof.Rows
noncomputable def Z5 (z:Str):It:=⟨fun i _=>i < z.cps.size,fun i H x H'=>H'=H∧∃c,z.cps[i]?=some c∧x=.str ⟨#[c]⟩,fun i _=>z.cps.size≤i⟩
theorem Mh {P:Program} {w:World} {K:PySem.W.Frag} {tg:Expr} {z:Str} {t:Tok} {ty:String} {it:Addr} (hty:ty="str_ascii_iterator"∨ty="str_iterator") (hgo:∀i u,letOwnedTupleGo tg i u=pure ()):
  Turn P w K tg (Z5 z) [it] it (fun i h=>h.IsStrIter it ty z t i) where
 mem:=by simp
 obj:=fun i h st b hb=>by
  have e:b=it:=by simpa using hb
  subst e
  obtain ⟨o,e,c,d⟩:=st
  exact ⟨o,e,fun v q=>by rw [d] at q; cases q⟩
 keep:=fun i h h' st k=>let ⟨o,ho,r⟩:=st; ⟨o,k it (by simp) o ho,r⟩
 item:=by
  intro X hP hw hK hc i pins s σ H E I hf st hg
  subst hP hw hK
  obtain ⟨f0,f1,f2,f3,f4,f5⟩:=hf it (by simp)
  have hi:i < z.cps.size:=hg
  have W:Walks X.prog X.w X.A it [it] [it] z.cps.size (SignAt z) (fun i h=>h.IsStrIter it ty z t i):=by
   rcases hty with rfl | rfl
   ·exact Walks.strAscii (I.ok.hd hc) it z t
   ·exact Walks.strWide (I.ok.hd hc) it z t
  refine W.item i s _ _ hi st fun v h' tk hv st' kk=>?_
  obtain ⟨c,u,hc',rfl⟩:=hv
  have I1:Inv X pins σ H { s with heap:=h',toks:=tk }:=I.turned (fun b o hb e=>kk b o (by simpa using hb) e) f0 f1 f3 f4 f5
  refine ⟨_,rfl,?_⟩
  rw [hgo]
  exact wpAny_pure ⟨.str ⟨#[c]⟩,H,I1,⟨u,rfl⟩,⟨rfl,c,hc',rfl⟩,st',fun b hb=>(hf b hb).1⟩
 done:=by
  intro X hP hw hK hc i pins s σ H E I hf st hg
  subst hP hw hK
  obtain ⟨f0,f1,f2,f3,f4,f5⟩:=hf it (by simp)
  have hi:z.cps.size≤i:=hg
  rcases hty with rfl | rfl
  ·exact wpAny_pyNext_ascii_end (I.ok.hd hc) st (by simpa using hi) fun h' eb=>⟨rfl,I.turned (t':=s.toks) (fun b o hb e=>eb b o hb e) f0 f1 f3 f4 f5⟩
  ·exact wpAny_pyNext_wide_end (I.ok.hd hc) st (by simpa using hi) fun h' eb=>⟨rfl,I.turned (t':=s.toks) (fun b o hb e=>eb b o hb e) f0 f1 f3 f4 f5⟩
 self:=fun _ _ _ _ _ st h=>by
  rcases hty with rfl | rfl
  ·exact wpAny_pyIter_striter_ascii st h
  ·exact wpAny_pyIter_striter_wide st h
section
variable {X:Cx} {tg:Expr}
noncomputable def Z6 (tl:TE):TI:=fun σ H R=>tl σ H fun x H1=>∃z,x=.str z∧R (Z5 z) H1
theorem Mi {l:Expr} {tl:TE} (hl:PE X l tl) (hgo:∀i u,letOwnedTupleGo tg i u=pure ():=by intro _ _; rfl):PI X tg l (Z6 tl):=by
 intro pins s σ H R I h
 refine cU (hl pins s σ H _ I h) fun v s1 aV=>?_
 obtain ⟨x,H1,I1,r1,q1⟩:=aV
 obtain ⟨z,e,q⟩:=q1
 subst e
 obtain ⟨t,rfl⟩:=r1
 have fin:∀(o:Obj) (ty:String),(ty="str_ascii_iterator"∨ty="str_iterator")→Heap.IsStrIter (s1.heap.push o) s1.heap.objs.size ty z t 0→PIE X pins σ tg R (.ref s1.heap.objs.size) { s1 with heap:=s1.heap.push o }:=fun o ty hty st=>by
  refine ⟨s1.heap.objs.size,[s1.heap.objs.size],_,_,H1,rfl,I1.kept (t':=s1.toks) fun b o e=>Heap.get?_push_of_some _ e,Mh hty hgo,st,fun b hb=>?_,q⟩
  have e:b=s1.heap.objs.size:=by simpa using hb
  subst e
  exact I1.yU (Nat.le_refl _) (I1.hok.fresh (Nat.le_refl _))
 cases ha:z.cps.all (· < 128)
 ·exact wpAny_pyIter_wide ha (fin _ _ (.inr rfl) ⟨_,Heap.get?_push_size _ rfl,rfl,rfl⟩)
 ·exact wpAny_pyIter_ascii ha (fin _ _ (.inl rfl) ⟨_,Heap.get?_push_size _ rfl,rfl,rfl⟩)
theorem JM:gW X (compareOp .LtE) (fun x y H Q=>∃i j,x=.str i∧y=.str j∧Q (.bl (!(decide (j.cps.toList < i.cps.toList)))) H):=by
 intro pins s σ H x y v u Q I rx ry h
 obtain ⟨i,j,rfl,rfl,q⟩:=h
 obtain ⟨t,rfl⟩:=rx
 obtain ⟨t',rfl⟩:=ry
 exact PySem.P.le_str (bC I q rfl)
theorem oX:∀{ys:List Str} {us:List Value},Vals (ys.map V.str) us→StrsAre us ys
 | [],_,h=>by cases h; exact .nil
 | y::ys,_,h=>by
  cases h with
  | cons r rr=>
   obtain ⟨t,rfl⟩:=r
   exact .cons y t (oX rr)
theorem Qv:Wr X "str.join" (fun x xs H Q=>∃z p ys,x=.str z∧xs=[.ref p]∧cO X.K H p (ys.map V.str)∧(ys.map (·.length)).sum + ys.length * z.length≤16777216∧Q (.str (Txt.join z ys)) H):=by
 intro pins s σ H x xs v us Q I rx r h
 obtain ⟨z,p,ys,rfl,rfl,hp,hz,q⟩:=h
 obtain ⟨t,rfl⟩:=rx
 obtain ⟨u,rfl,ru⟩:=vals1 r
 cases ru
 obtain ⟨its,rv,pl,_⟩:=I.list hp
 exact join_list pl.isList (by simpa using oX rv) hz fun t' k=>⟨.str _,H,I.tok _,⟨_,rfl⟩,q⟩
end
end L2
namespace L2
open PySem PySem.Spec PyProof.Rows
section
variable {X:Cx}
theorem part_of {v:Value} {o:Option Int} (h:IsPart v o):∃l:Option (Int×Tok),v=partValue l∧l.map (·.1)=o:=by
 cases h with
 | none=>exact ⟨none,rfl,rfl⟩
 | int i t=>exact ⟨some (i,t),rfl,rfl⟩
theorem Vd:Ql X (fun x lo hi H Q=>∃z,x=.str z∧z.length≤sizeLine∧Q (.str (Txt.slice z lo hi)) H):=by
 intro pins s σ H x v vl vu lo hi sl Q I rx hs pl pu h
 obtain ⟨z,rfl,hz,q⟩:=h
 obtain ⟨t,rfl⟩:=rx
 obtain ⟨l,rfl,rfl⟩:=part_of pl
 obtain ⟨u,rfl,rfl⟩:=part_of pu
 refine ⟨"str",_,F.slot_str_getitem.lookup,typeIs_str s z t,?_⟩
 exact wpAny_getItem_str_slice (l:=l) (u:=u) (st:=none) hs rfl (post_val_or_str ⟨Nat.le_trans (Txt.slice_le z _ _) hz,fun t' k=>⟨.str _,H,I.tok _,⟨t',rfl⟩,q⟩⟩)
theorem Bb:∀{bs:List Bool} {us:List Value},Vals (bs.map V.bl) us→us=bs.map Value.bool
 | [],_,h=>by cases h; rfl
 | b::bs,_,h=>by
  cases h with
  | cons r rr=>
   cases r
   rw [Bb rr]
   rfl
theorem Bc (hc:X.calm=true):cD X (.builtin "all") (fun xs H Q=>∃(p:Addr) (bs:List Bool),xs=[.ref p]∧cO X.K H p (bs.map V.bl)∧Q (.bl (bs.all id)) H):=by
 intro pins s σ H xs us Q I r h
 obtain ⟨p,bs,rfl,hp,q⟩:=h
 obtain ⟨u,rfl,ru⟩:=vals1 r
 cases ru
 obtain ⟨its,rv,pl,_⟩:=I.list hp
 have hl:=pl.isList
 have e0:=Bb rv
 subst e0
 have hlt:p < s.heap.objs.size:=by obtain ⟨_,e,_⟩:=hl; exact Heap.lt_size e
 refine call_all_walk (wpAny_pyIter_list hl ?_)
 refine ⟨s.heap.objs.size,[s.heap.objs.size,p],[s.heap.objs.size],(bs.map Value.bool).toArray.size,_,_,fun i=>(bs[i]?).getD true,rfl,Walks.list (A:=X.A.in1) (I.ok.hd hc) _ p (Nat.ne_of_lt hlt) (bs.map Value.bool).toArray,
  ⟨⟨_,Heap.get?_push_size _ rfl,rfl,rfl⟩,hl.push _⟩,fun i v s' Q' E' hP hQ=>?_,fun h' tk hk=>?_⟩
 ·have hP':(bs.map Value.bool)[i]?=some v:=by simpa using hP
  rw [List.getElem?_map] at hP'
  cases e:bs[i]? with
  | none=>rw [e] at hP'; cases hP'
  | some b=>
   rw [e] at hP'
   cases hP'
   simp only [e,Option.getD_some] at hQ
   exact wpAny_truthy_bool hQ
 ·have e:((List.range (bs.map Value.bool).toArray.size).all fun i=>(bs[i]?).getD true)=bs.all id:=by
   have:(bs.map Value.bool).toArray.size=bs.length:=by simp
   rw [this,Bool.eq_iff_iff,List.all_eq_true,List.all_eq_true]
   constructor
   ·intro h b hb
    obtain ⟨i,hi,rfl⟩:=List.getElem_of_mem hb
    have:=h i (List.mem_range.mpr hi)
    simpa [List.getElem?_eq_getElem hi] using this
   ·intro h i hi
    have hi':=List.mem_range.mp hi
    simp only [List.getElem?_eq_getElem hi',Option.getD_some]
    exact h _ (List.getElem_mem hi')
  rw [e]
  refine ⟨.bl _,H,I.kept fun b x e=>hk b x (fun hm=>?_) (Heap.get?_push_of_some _ e),rfl,q⟩
  rw [List.mem_singleton.mp hm] at e
  exact Nat.lt_irrefl _ (Heap.lt_size e)
end
end L2
namespace L2
open PySem PySem.Spec PyProof.Rows
mutual
noncomputable def RD (K:PySem.W.Frag) (H:Hp):PyData→V→Prop
 | .none,v=>v=.non
 | .bool b,v=>v=.bl b
 | .int i,v=>v=.int i
 | .str x,v=>v=.str x
 | .tuple ds,v=>∃a vs,v=.ref a∧eX K H a vs∧xV K H ds vs
 | .list ds,v=>∃a vs,v=.ref a∧cO K H a vs∧xV K H ds vs
 | .dict _,_=>False
noncomputable def xV (K:PySem.W.Frag) (H:Hp):List PyData→List V→Prop
 | [],vs=>vs=[]
 | d::ds,vs=>∃v r,vs=v::r∧RD K H d v∧xV K H ds r
end
theorem eX.same {K:PySem.W.Frag} {H H':Hp} {a:Addr} {xs:List V} (e:∀b ys,H b=some (.tup ys)→H' b=some (.tup ys)) (ef:∀b o u,H b=some (.Al o u)→H' b=some (.Al o u)) (h:eX K H a xs):eX K H' a xs:=by
 rcases h with (h | ⟨o,h⟩) | h
 ·exact .inl (.inl (e _ _ h))
 ·exact .inl (.inr ⟨o,ef _ _ _ h⟩)
 ·exact .inr h
mutual
theorem RD.same {K:PySem.W.Frag} {H H':Hp} (e:aU H H'):∀{d:PyData} {v:V},RD K H d v→RD K H' d v
 | .none,_,h=>h
 | .bool _,_,h=>h
 | .int _,_,h=>h
 | .str _,_,h=>h
 | .tuple ds,v,h=>by
  obtain ⟨a,vs,e1,q,r⟩:=h
  exact ⟨a,vs,e1,q.same (fun b ys z=>e _ _ z) (fun b o u z=>e _ _ z),xV.same e r⟩
 | .list ds,v,h=>by
  obtain ⟨a,vs,e1,q,r⟩:=h
  exact ⟨a,vs,e1,e.seq q,xV.same e r⟩
theorem xV.same {K:PySem.W.Frag} {H H':Hp} (e:aU H H'):∀{ds:List PyData} {vs:List V},xV K H ds vs→xV K H' ds vs
 | [],_,h=>h
 | d::ds,vs,h=>by
  obtain ⟨v,r,e1,q,t⟩:=h
  exact ⟨v,r,e1,RD.same e q,xV.same e t⟩
end
mutual
theorem RD.nodict {K:PySem.W.Frag} {H:Hp}:∀{d:PyData} {v:V},RD K H d v→d.hasDict=false
 | .none,_,h=>by simp [PyData.hasDict]
 | .bool _,_,h=>by simp [PyData.hasDict]
 | .int _,_,h=>by simp [PyData.hasDict]
 | .str _,_,h=>by simp [PyData.hasDict]
 | .tuple ds,v,h=>by
  obtain ⟨a,vs,e1,q,r⟩:=h
  simpa [PyData.hasDict] using xV.nodict r
 | .list ds,v,h=>by
  obtain ⟨a,vs,e1,q,r⟩:=h
  simpa [PyData.hasDict] using xV.nodict r
theorem xV.nodict {K:PySem.W.Frag} {H:Hp}:∀{ds:List PyData} {vs:List V},xV K H ds vs→PyData.hasDictAll ds=false
 | [],_,h=>by simp [PyData.hasDictAll]
 | d::ds,vs,h=>by
  obtain ⟨v,r,e1,q,t⟩:=h
  simp [PyData.hasDictAll,RD.nodict q,xV.nodict t]
end
section
variable {X:Cx} {pins:List (Addr×Obj)} {σ:St} {H:Hp} {s:Shared}
mutual
theorem RD.reads (I:Inv X pins σ H s):∀{d:PyData} {v:V} {u:Value},RD X.K H d v→RelV v u→∃as,Reads s.heap u d as
 | .none,_,_,h,r=>by
  cases (show _=V.non from h)
  cases r
  exact ⟨_,.none⟩
 | .bool b,_,_,h,r=>by
  cases (show _=V.bl b from h)
  cases r
  exact ⟨_,.bool b⟩
 | .int i,_,_,h,r=>by
  cases (show _=V.int i from h)
  obtain ⟨t,rfl⟩:=r
  exact ⟨_,.int i t⟩
 | .str x,_,_,h,r=>by
  cases (show _=V.str x from h)
  obtain ⟨t,rfl⟩:=r
  exact ⟨_,.str x t⟩
 | .tuple ds,v,u,h,r=>by
  obtain ⟨a,vs,e1,q,t⟩:=h
  subst e1
  cases r
  obtain ⟨its,rv,⟨o,e,c,n,d⟩,_⟩:=I.tuple q
  obtain ⟨as,R⟩:=xV.reads I t rv
  exact ⟨_,.tuple e c d (by simpa using R)⟩
 | .list ds,v,u,h,r=>by
  obtain ⟨a,vs,e1,q,t⟩:=h
  subst e1
  cases r
  obtain ⟨its,rv,⟨o,n,e,c,_,d⟩,_⟩:=I.list q
  obtain ⟨as,R⟩:=xV.reads I t rv
  exact ⟨_,.list e c d (by simpa using R)⟩
theorem xV.reads (I:Inv X pins σ H s):∀{ds:List PyData} {vs:List V} {us:List Value},xV X.K H ds vs→Vals vs us→∃as,ReadsAll s.heap us ds as
 | [],_,_,h,r=>by
  cases (show _=[] from h)
  cases r
  exact ⟨_,.nil⟩
 | d::ds,vs,us,h,r=>by
  obtain ⟨v,rr,e1,q,t⟩:=h
  subst e1
  cases r with
  | cons r1 r2=>
   obtain ⟨as,R⟩:=RD.reads I q r1
   obtain ⟨bs,R2⟩:=xV.reads I t r2
   exact ⟨_,.cons R R2⟩
end
end
section
variable {X:Cx}
theorem xW (hg:X.A.guards=some []) (hu:X.A.units + 64 < cLine):cD X (.builtin "repr") (fun xs H Q=>∃v d,xs=[v]∧RD X.K H d v∧d.showable=true∧d.depth≤60∧d.shown.length≤sizeLine∧Q (.str d.shown) H):=by
 intro pins s σ H xs us Q I r h
 obtain ⟨v,d,rfl,hd,hs,acL,hz,q⟩:=h
 obtain ⟨u,rfl,ru⟩:=vals1 r
 cases d with
 | none=>
  cases (show v=V.non from hd)
  cases ru
  exact PySem.P.repr_of_none ⟨.str _,H,I.tok _,⟨_,rfl⟩,by simpa [PyData.shown] using q⟩
 | bool b=>
  cases (show v=V.bl b from hd)
  cases ru
  exact PySem.P.repr_of_bool ⟨.str _,H,I.tok _,⟨_,rfl⟩,by simpa [PyData.shown] using q⟩
 | int i=>
  cases (show v=V.int i from hd)
  obtain ⟨t,rfl⟩:=ru
  exact PySem.P.repr_of_int (by simpa [PyData.showable] using hs) ⟨.str _,H,I.tok _,⟨_,rfl⟩,by simpa [PyData.shown] using q⟩
 | str x=>
  cases (show v=V.str x from hd)
  obtain ⟨t,rfl⟩:=ru
  exact PySem.P.repr_of_str ⟨.str _,H,I.tok _,⟨_,rfl⟩,by simpa [PyData.shown] using q⟩ (by simpa [PyData.shown] using hz)
 | dict kvs=>exact hd.elim
 | tuple ds=>
  obtain ⟨as,R⟩:=hd.reads I ru
  obtain ⟨a,vs,e1,_,_⟩:=id hd
  subst e1
  cases ru
  exact repr_of_reads' R hs (PyData.noDict_hsm hd.nodict) hg (by omega) (fun _ _ e=>e) (fun h' u tk hk=>⟨.str _,H,I.kept hk,⟨_,rfl⟩,q⟩) hz
 | list ds=>
  obtain ⟨as,R⟩:=hd.reads I ru
  obtain ⟨a,vs,e1,_,_⟩:=id hd
  subst e1
  cases ru
  exact repr_of_reads' R hs (PyData.noDict_hsm hd.nodict) hg (by omega) (fun _ _ e=>e) (fun h' u tk hk=>⟨.str _,H,I.kept hk,⟨_,rfl⟩,q⟩) hz
end
end L2
namespace L2
open PySem PySem.Spec PyProof.Rows
noncomputable def Mj (qP:Scope) (N0 NT NF:List Str) (js:List Nat) (scope:Scope):Bool:=
 scope.kind==.function&&scope.names.all (fun y=>!(y.2==.local) || scope.names.lookup y.1==some .local)&&scope.names.all (fun y=>!(y.2==.cell))&&
  scope.names.all (fun y=>!(y.2==.free) || (qP.names.lookup y.1==some .cell || qP.names.lookup y.1==some .free))&&js.length==NF.length&&
  (js.zip NF).all (fun p=>N0[p.1]?==some p.2&&scope.names.lookup p.2==some .free)&&NT.all (fun x=>scope.names.lookup x==some .local)&&decide (NT++NF).Nodup
theorem iQ.ok {X:Cx} {qP:Scope} {N0 NT NF:List Str} {js:List Nat} {scope:Scope} (h:Mj qP N0 NT NF js scope=true) (ho:X.env.scope=qP) (hN:X.N=N0):jU X NT NF js scope:=by
 unfold Mj at h
 simp only [Bool.and_eq_true] at h
 obtain ⟨⟨⟨⟨⟨⟨⟨h1,h2⟩,h3⟩,h4⟩,h5⟩,h6⟩,h7⟩,h8⟩:=h
 refine ⟨eq_of_beq h1,fun y hy e=>?_,fun y hy e=>?_,fun y hy e=>?_,by simpa using h5,fun k j x ej ex=>?_,fun x hx=>?_,of_decide_eq_true h8⟩
 ·have:=List.all_eq_true.mp h2 y hy
  rw [e] at this
  simpa using this
 ·have:=List.all_eq_true.mp h3 y hy
  rw [e] at this
  simp at this
 ·have:=List.all_eq_true.mp h4 y hy
  rw [e] at this
  rw [ho]
  simpa using this
 ·have hm:(j,x)∈js.zip NF:=by
   have:(js.zip NF)[k]?=some (j,x):=by
    rw [List.getElem?_zip_eq_some]
    exact ⟨ej,ex⟩
   exact List.mem_of_getElem? this
  have:=List.all_eq_true.mp h6 _ hm
  simp only [Bool.and_eq_true] at this
  rw [hN]
  exact ⟨eq_of_beq this.1,eq_of_beq this.2⟩
 ·exact eq_of_beq (List.all_eq_true.mp h7 x hx)
structure gq (P:Program) (w:World) (K:PySem.W.Frag) (mg:Str→Option Value) (base:Heap) (x:Str) (k:Nat) (ps:List Str) (sp:Sp):Prop where
 ex:∃(f:Addr) (fd:FuncData),mg x=some (.ref f)∧PySem.W.keepIn K (.ref f)=true∧Binds K fd ps []∧dM P w K mg base qO k f fd ps sp
section
variable {X:Cx} {x:Str} {k:Nat} {ps:List Str} {sp:Sp} {p pos:Pos} {e:Expr} {es:List Expr} {t:TA}
theorem Xq (F:gq X.prog X.w X.K X.mg X.base x k ps sp) (hr:fH k X.A) (hg:Gl X x) (ha:PA X (e::es) t) (hdb:(x==("__debug__":Str))=false:=by decide)
  (he:starEach (e::es) X.env=(false,eval e X.env)::starEach es X.env:=by rfl) (hpl:(backTo pos (starEach es X.env)).any (·.1)=false:=by rfl):
  PE X (.Call (.Name x p) (e::es) [] pos) (Ar sp [] E0 t):=by
 obtain ⟨f,fd,h1,h2,h3,h4⟩:=F.ex
 exact Qg h4 hr hg h1 h2 h3 .nil S7 ha hdb he hpl
theorem Bd:cD X (.builtin "isinstance") (fun xs H Q=>∃x n t b,xs=[x,.ty n]∧mj X.K H x t∧PySem.W.kitOne X.K t (.type n)=some b∧Q (.bl b) H):=by
 intro pins s σ H xs us Q I r h
 obtain ⟨x,n,t,b,rfl,ty,e,q⟩:=h
 obtain ⟨u,u2,rfl,r1,r2⟩:=vals2 r
 cases r2
 exact Jw I r1 ty e fun tk=>⟨.bl b,H,I.tok tk,rfl,q⟩
end
structure Fx (K:PySem.W.Frag) (T:n6) (J:It) (n:Nat) (vs:Nat→List V) (G:Hp→Prop):Prop where
 go:∀i H,i < n→G H→J.go i H
 Sv:∀i H x H',i < n→G H→J.Sv i H x H'→H'=H∧S8 K T x H (vs i)
 stop:∀H,G H→J.stop n H
section
variable {K:PySem.W.Frag} {T:n6} {J:It} {n:Nat} {vs:Nat→List V} {G:Hp→Prop} {ts:TT} {te:TE} {fs:St} {H1:Hp} {D:Addr} {done:Hp→Prop}
end
end L2
namespace L2
open PySem PySem.Spec PyProof.Rows
theorem Qw {n m:Nat} (h:n≤m) (hm:m≤16777216:=by decide):n≤sizeLine:=by rw [sizeLine_eq]; omega
section
variable {K:PySem.W.Frag} {T:n6} {J:It} {n:Nat} {vs:Nat→List V} {G:Hp→Prop} {te:TE} {fs:St} {H1:Hp} {D:Addr} {done:Hp→Prop}
end
section
variable {X:Cx}
theorem Wr.r {id:String} {r:V→List V→Hp→VK→Prop} (h:Wr X id r):Wq X id r:=h
end
noncomputable def Ext (p:Addr) (H H':Hp):Prop:=∀b o,H b=some o→b≠p→H' b=some o
theorem Ext.refl (p:Addr) (H:Hp):Ext p H H:=fun _ _ h _=>h
theorem Ext.trans {p:Addr} {H H1 H2:Hp} (a:Ext p H H1) (b:Ext p H1 H2):Ext p H H2:=fun c o h hc=>b c o (a c o h hc) hc
theorem aU.ext {p:Addr} {H H':Hp} (s:aU H H'):Ext p H H':=fun b o h _=>s b o h
theorem Ext.upd {p:Addr} {H:Hp} {o:HO}:Ext p H (upd H p o):=fun b u h hb=>by rw [aJ hb]; exact h
theorem aU.upd {p:Addr} {H:Hp} {o:HO} (h:H p=none):aU H (L2.upd H p o):=fun b u e=>by rw [aJ (bB e h)]; exact e
end L2
namespace L2
open PySem PySem.Spec PyProof.Rows
noncomputable def Ve (D:Addr) (tk tv:TE):TM:=fun σ H Q=>tk σ H fun y H1=>tv σ H1 fun z H2=>∃kvs k,H2 D=some (.dK kvs)∧y=kV k∧kvs.length < sizeLine∧Q (upd H2 D (.dK (putK kvs k z)))
theorem Vf {X:Cx} {D:Addr} {kx vx:Expr} {tk tv:TE} (hu:X.A.units + 1 < cLine) (hk:PE X kx tk) (hv:PE X vx tv):PM X (do
      let kv ←eval kx X.env
      let vv ←holding [kv] (eval vx X.env)
      standAt { kx.pos with endLine:=vx.pos.endLine,endCol:=vx.pos.endCol }
      holding [kv,vv] (dictSet D kv vv)) (Ve D tk tv):=by
 intro pins s σ H Q I h
 refine wpAny_bind (cU (hk pins s σ H _ I h) fun kv s1 aV=>?_)
 obtain ⟨y,H1,I1,r1,q1⟩:=aV
 refine wpAny_bind (wpAny_holding (cU (hv pins s1 σ H1 _ I1 q1) fun vv s2 aV=>?_))
 obtain ⟨z,H2,I2,r2,kvs,k,hD,ey,hl,q2⟩:=aV
 subst ey
 refine wpAny_bind (wpAny_standAt (wpAny_holding ?_))
 obtain ⟨z1,hd,vs,rel,dd⟩:=SQ I2.hok hD
 have hz:vs.length≤sizeLine:=by rw [←rel.length]; exact z1
 have hl2:(putK kvs k z).length≤sizeLine:=by have:=mC kvs k z; omega
 refine wpAny_dictSet_pairs (hsz:=hz) (xQ r1) dd fun h' U9 hs=>⟨_,?_,q2⟩
 have he:∃q,h'.get? D=some q:=let ⟨q,_,_,hq,_⟩:=U9; ⟨q,hq⟩
 exact nF I2 (by rw [hD]; exact True.intro) hs he (Eh hl2 hd (rel.put k r2) U9)
section
variable {X:Cx} {NT NF:List Str} {js:List Nat} {elt kx vx tg iter e:Expr} {ifs:List Expr} {T:n6} {wi:TI} {ts:Bk→TT} {te tk' tv:Bk→TE} {scope:Scope} {pos:Pos}
noncomputable def tDC (K:PySem.W.Frag) (wi:TI) (T:n6) (ts:Bk→TT) (tk' tv:Bk→TE) (js:List Nat):TE:=fun σ H Q=>wi σ H fun J H1=>∀D,H1 D=none→∀b,Ek K T (ts b) (Ve D (tk' b) (tv b)) (frees js σ) J (upd H1 D (.dK [])) (Q (.ref D))
theorem Vg {pins:List (Addr×Obj)} {σ:St} {s2:Shared} {H2:Hp} {cl:List (Str×Addr)} {it:Addr} {fp:List Addr} {tn:Nat→Heap→Prop} {J:It} {Q:Hp→Prop} {RR:Value→Addr→Result→Shared→Prop} {E:Value→Shared→Prop}
  (B:jU X NT NF js scope) (tk:p6 tg NT T) (hc:X.calm=true) (hu:X.A.units + 1 < cLine)
  (hin:∀b,Du (X.bk (NT++NF) scope b) ifs (ts b)∧PE (X.bk (NT++NF) scope b) kx (tk' b)∧PE (X.bk (NT++NF) scope b) vx (tv b))
  (q2:∀n c,cl.lookup n=some c→X.env.cells.lookup n=some c) (q3:∀y∈scope.names,y.2=.free→∃c,cl.lookup y.1=some c)
  (I2:Inv X pins σ H2 s2) (TT:Turn X.prog X.w X.K tg J fp it tn) (st2:tn 0 s2.heap) (f2:∀b∈fp,iC X pins H2 b)
  (q:∀b,Ek X.K T (ts b) (Ve s2.heap.objs.size (tk' b) (tv b)) (frees js σ) J (upd H2 s2.heap.objs.size (.dK [])) Q)
  (hR:∀C H' s' m,Inv X pins σ H' s'→iC X pins H' C→s'.heap.Ns C m→Q H'→RR (.ref s2.heap.objs.size) C (.ok .next) s'):
  wpAny (model X.prog X.w) X.A (newDict) (fun acc s₃=>wpAny (model X.prog X.w) X.A (newFunctionEnv scope X.env.globals cl [] X.env.qual none .none (some X.env)) (fun cenv s₄=>
   codeAny (model X.prog X.w) X.A (.compStart (.DictComp kx vx [⟨tg,iter,ifs,0⟩] scope pos) 0 (.ref it) acc { cenv with scope:=relabel scope X.env }) (RR acc cenv.locals) s₄) E s₃) E s2:=by
 refine wpAny_newObj_type ?_
 have hD:H2 s2.heap.objs.size=none:=I2.hok.fresh (Nat.le_refl _)
 have I3:Inv X pins σ (upd H2 s2.heap.objs.size (.dK [])) { s2 with heap:=s2.heap.push { cls:=.type "dict",dict:=none,data:=.dict #[] } }:=
  I2.laid (t':=s2.toks) (fun b o e=>Heap.get?_push_of_some _ e) (Nat.le_refl _) (Az s2.heap I2.big)
 have hsz:(s2.heap.push { cls:=.type "dict",dict:=none,data:=.dict #[] }).objs.size=s2.heap.objs.size + 1:=Heap.size_push ..
 refine wpAny_newFunctionEnv B.cell (by intro y hy; simp at hy) (fun h₁ hns₁ hsb₁=>?_) B.kind
 have KJ:∀b∈fp,b < s2.heap.objs.size:=fun b hb=>by
  obtain ⟨o,e,_⟩:=TT.obj 0 _ st2 b hb
  exact Heap.lt_size e
 have f3:∀b∈fp,iC X pins (upd H2 s2.heap.objs.size (.dK [])) b:=fun b hb=>⟨by rw [aJ (Nat.ne_of_lt (KJ b hb))]; exact (f2 b hb).1,(f2 b hb).2⟩
 have keep:∀b o,(s2.heap.push { cls:=.type "dict",dict:=none,data:=.dict #[] }).get? b=some o→h₁.get? b=some o:=fun b o e=>
  hsb₁.extBut b o (Nat.ne_of_lt (Heap.lt_size e)) (Heap.get?_push_of_some _ e)
 have S9:∀b∈fp,b < (s2.heap.push { cls:=.type "dict",dict:=none,data:=.dict #[] }).objs.size:=fun b hb=>by have:=KJ b hb; rw [hsz]; exact Nat.lt_succ_of_lt this
 have I4:=I3.blk (s1:={ s2 with heap:=h₁,toks:=s2.toks + ([]:List (Str×Value)).length }) B q2 q3 f3 S9 hns₁ keep rfl I2.bare
 have Tc:tn 0 h₁:=TT.keep 0 _ _ st2 fun b _ o e=>keep b o (Heap.get?_push_of_some _ e)
 obtain ⟨i1,i2,i3⟩:=hin ⟨cl,(s2.heap.push { cls:=.type "dict",dict:=none,data:=.dict #[] }).objs.size,{ s2 with heap:=s2.heap.push { cls:=.type "dict",dict:=none,data:=.dict #[] } },upd H2 s2.heap.objs.size (.dK []),fp⟩
 have loop:codeAny (model X.prog X.w) X.A (.compLoop (.DictComp kx vx [⟨tg,iter,ifs,0⟩] scope pos) 0 (.ref it) (.ref s2.heap.objs.size) (compEnvC scope cl (s2.heap.push { cls:=.type "dict",dict:=none,data:=.dict #[] }).objs.size X.env))
   (RR (.ref s2.heap.objs.size) (s2.heap.push { cls:=.type "dict",dict:=none,data:=.dict #[] }).objs.size) { s2 with heap:=h₁,toks:=s2.toks + ([]:List (Str×Value)).length }:=by
  refine uD (X:=X.blk (NT++NF) scope cl (s2.heap.push { cls:=.type "dict",dict:=none,data:=.dict #[] }).objs.size { s2 with heap:=s2.heap.push { cls:=.type "dict",dict:=none,data:=.dict #[] } } (upd H2 s2.heap.objs.size (.dK [])) fp)
   (T:=T) (fs:=frees js σ) (done:=Q) rfl (Ej kx vx tg iter ifs scope pos _ _ _) rfl rfl rfl tk rfl B.nd hc (fun x hx=>lookup_relabel_local (B.tg x hx)) i1 (Vf hu i2 i3) TT (fun b hb=>?_) I4 Tc (q _) fun H' s' σ' J' qd=>?_
  ·exact ⟨(f3 b hb).1,Nat.ne_of_lt (S9 b hb),fun hb2=>by
    rcases List.mem_cons.mp (I3.qU b hb2) with z | z
    ·exact (f3 b hb).2.1 z
    ·exact (f3 b hb).2.2.1 z,.inl hb,fun x c e=>(f3 b hb).2.2.2.2.1 x c (q2 x c e),fun p hp=>(nomatch (show p∈([]:List (Addr×Obj)) from hp))⟩
  ·obtain ⟨m,hn,_⟩:=J'.loc
   exact hR _ H' s' m (I3.LQ f3 J') (I3.yU (Nat.le_refl _) J'.free) hn qd
 exact codeAny_compStart_dict loop (TT.self _ 0 _ _ _ Tc loop)
theorem Ml {i:Nat} {y:Str} {pos' spos:Pos} (B:jU X NT NF js scope) (tk:p6 tg NT T) (hc:X.calm=true) (hu:X.A.units + 1 < cLine) (hi:PI X tg iter wi)
  (hin:∀b,Du (X.bk (NT++NF) scope b) ifs (ts b)∧PE (X.bk (NT++NF) scope b) kx (tk' b)∧PE (X.bk (NT++NF) scope b) vx (tv b))
  (hsw:swapsWith (.DictComp kx vx [⟨tg,iter,ifs,0⟩] scope pos) (some (.Name y pos')) spos.line X.env=pure true)
  (hN:X.N.Nodup) (hI:X.N[i]?=some y) (hy:X.env.scope.names.lookup y=some .local)
  (hs:∀x,foldedSetIterable iter X.env x=pure x:=by intro _; rfl):PS X (.Assign [.Name y pos'] (.DictComp kx vx [⟨tg,iter,ifs,0⟩] scope pos) spos) (Jm (tDC X.K wi T ts tk' tv js) (sU i)):=by
 intro pins s σ H D I h
 obtain ⟨cl,hclos,q2,q3⟩:=j5 (env:=X.env) (scope:=scope) fun y hy e=>I.ok.has y.1 (B.free y hy e)
 rw [exec_Assign_Name_used _ _ _ _ hsw]
 refine wpAny_bind (wpAny_standAt (wpAny_bind ?_))
 show wpAny _ X.A (do let _ ←comprehension (.DictComp kx vx [⟨tg,iter,ifs,0⟩] scope pos) scope X.env _ (newDict) false (eval iter X.env) (some (assign (.Name y pos') X.env))) _ _ s
 refine wpAny_bind (wpAny_mono (wpAny_comprehension_free (use:=some (assign (.Name y pos') X.env)) (Q:=fun _ s'=>SP X pins D .next s') rfl hs hclos B.kind B.names
  (cU (hi pins s σ H _ I h) fun v s1 h1=>cU h1 fun itv s2 ⟨it,fp,tn,J,H2,e,I2,TT,st2,f2,q⟩=>?_)) (fun _ s' hq=>wpAny_pure (wpAny_pure hq)) fun _ _ e=>e)
 subst e
 refine Vg (hu:=hu) (Q:=fun H'=>D.nx (σ.set i (some (.ref s2.heap.objs.size))) H') (RR:=fun acc C=>compPost (model X.prog X.w) X.A X.xe (some (assign (.Name y pos') X.env)) (fun _ s'=>SP X pins D .next s') acc C) B tk hc (hin:=hin) q2 q3 I2 TT st2 f2 (q _ (I2.hok.fresh (Nat.le_refl _))) fun C H' s' m I' fC hn qd=>?_
 show wpAny _ X.A (assign (.Name y pos') X.env (.ref s2.heap.objs.size)) _ _ _
 refine wpAny_assign_Name (qW I' hN hI (.inl hy) (v:=.ref s2.heap.objs.size) rfl (fun s3 I3 aV=>?_) (.inr hy))
 obtain ⟨a,sb,ha⟩:=aV
 have Z4:C≠a:=by
  rcases ha with z | z
  ·rw [z]; exact fC.2.1
  ·exact fun w=>fC.2.2.2.2.1 y a z w.symm
 refine ⟨m,hn.sameBut sb Z4,fun h' sb'=>⟨_,H',?_,qd⟩⟩
 exact I3.turned (t':=s3.toks) (fun b o hb e=>(sb'.2 b hb).trans e) fC.1 fC.2.1 fC.2.2.2.1 fC.2.2.2.2.1 fC.2.2.2.2.2
end
end L2
namespace L2
open PySem PySem.Spec PyProof.Rows
section
variable {X:Cx}
theorem Qx {K:PySem.W.Frag} {t:Value} {c d:Value} {p q:Bool} (e1:PySem.W.kitOne K t c=some p) (e2:PySem.W.kitOne K t d=some q):PySem.W.kitAny K t [c,d]=some (p || q):=by
 unfold PySem.W.kitAny
 rw [e1]
 cases p with
 | true=>rfl
 | false=>
  unfold PySem.W.kitAny
  rw [e2]
  cases q with
  | true=>rfl
  | false=>rfl
end
structure Fy (K:PySem.W.Frag) (T:n6) (J:It) (n:Nat) (vs:Nat→List V) (G:Hp→Prop):Prop where
 go:∀i H,i < n→G H→J.go i H
 Sv:∀i H x H',i < n→G H→J.Sv i H x H'→aU H H'∧S8 K T x H' (vs i)
 stop:∀H,G H→J.stop n H
section
variable {K:PySem.W.Frag} {T:n6} {J:It} {n:Nat} {vs:Nat→List V} {G:Hp→Prop} {ts:TT} {te:TE} {fs:St} {H1:Hp} {D:Addr} {done:Hp→Prop}
end
theorem Inv.t8 {X:Cx} {pins:List (Addr×Obj)} {σ:St} {H H':Hp} {s:Shared} {h':Heap} {t':Nat} {ch:List Addr} (I:Inv X pins σ H s) (k:∀b o,b∉ch→s.heap.get? b=some o→h'.get? b=some o) (hf:∀b∈ch,iC X pins H b)
  (hs:aU H H') (hfr:∀b o,s.heap.get? b=some o→H b=none→H' b=none) (hn:∀b u,H' b=some u→H b=some u∨bW X.prog X.w H' h' b u):Inv X pins σ H' { s with heap:=h',toks:=t' }:=by
 have WK:∀b u,H b=some u→b∉ch:=fun b u e z=>by rw [(hf b z).1] at e; cases e
 refine I.step (g':=s.gens) (d':=s.drawn) (ch:=ch) (fun b hb=>⟨(hf b hb).2.2.2.1,(hf b hb).2.1,(hf b hb).2.2.2.2.1,(hf b hb).2.2.2.2.2⟩) (fun b o _ _ hc e _=>k b o hc e) (fun b o _ _ hc e _=>⟨o.slots,k b o hc e⟩) (fun b o _ e n=>hfr b o e n)
  (fun b o hc e=>⟨o,k b o hc e⟩) (fun _ _ e=>hs _ _ e) (fun _ _ _ e=>hs _ _ e) (fun b ps e=>⟨#[],by rw [hs _ _ e]; simp⟩) (fun m hm=>?_) (fun b u e=>?_) I.bare
 ·obtain ⟨o,es,ep,ho,r⟩:=hm
  exact ⟨o,es,ep,k _ o (fun z=>(hf _ z).2.1 rfl) ho,r⟩
 ·rcases hn b u e with z | z
  ·refine (I.hok b u z).stay (fun c v hc q=>k c v ?_ q) (fun _ q=>hs _ _ q) fun _ _ q=>hs _ _ q
   rcases hc with y | y
   ·rw [y]; exact WK b u z
   ·exact WK c _ y
  ·exact z
noncomputable def Z7 (K:PySem.W.Frag) (a b:Addr):It:=⟨fun i H=>∃xs ys,cO K H a xs∧cO K H b ys∧i < min xs.length ys.length,
 fun i H v H'=>∃p x y,H p=none∧v=.ref p∧H'=upd H p (.tup [x,y])∧∀xs ys,cO K H a xs→cO K H b ys→xs[i]?=some x∧ys[i]?=some y,
 fun i H=>∃xs ys,cO K H a xs∧cO K H b ys∧i=min xs.length ys.length⟩
theorem Mm {P:Program} {w:World} {K:PySem.W.Frag} {es:List Expr} {k:Nat} {ps:Pos} {a b z TI TO i1 i2:Addr} (D:ZipApart z TI TO i1 i2 a b):
  Turn P w K (.Tuple es k ps) (Z7 K a b) [z,TI,TO,i1,i2] z (fun i h=>IsZip h z TI TO .none∧IsPair h TI (.ref i1) (.ref i2)∧(∃c d,IsPair h TO c d)∧h.IsListIter i1 a i∧h.IsListIter i2 b i) where
 mem:=by simp
 obj:=fun i h st c hc=>by
  obtain ⟨h1,h2,⟨_,_,h3⟩,⟨o4,e4,_,d4⟩,⟨o5,e5,_,d5⟩⟩:=st
  simp only [List.mem_cons,List.not_mem_nil,or_false] at hc
  rcases hc with rfl | rfl | rfl | rfl | rfl
  ·exact ⟨_,h1,fun v q=>by cases q⟩
  ·exact ⟨_,h2,fun v q=>by cases q⟩
  ·exact ⟨_,h3,fun v q=>by cases q⟩
  ·exact ⟨_,e4,fun v q=>by rw [d4] at q; cases q⟩
  ·exact ⟨_,e5,fun v q=>by rw [d5] at q; cases q⟩
 keep:=fun i h h' st kk=>by
  obtain ⟨h1,h2,⟨c,d,h3⟩,h4,h5⟩:=st
  exact ⟨kk z (by simp) _ h1,kk TI (by simp) _ h2,⟨c,d,kk TO (by simp) _ h3⟩,h4.at fun o e=>kk i1 (by simp) o e,h5.at fun o e=>kk i2 (by simp) o e⟩
 item:=by
  intro X hP hw hK hc i pins s σ H E I hf st hg
  subst hP hw hK
  obtain ⟨xs,ys,ha,hb,hi⟩:=hg
  obtain ⟨its,r1,p1,_⟩:=I.list ha
  obtain ⟨its2,r2,p2,_⟩:=I.list hb
  have l1:=r1.length
  have l2:=r2.length
  have W:=WalksT.zip2 (prog:=X.prog) (w:=X.w) (A:=X.A) (I.ok.hd hc) z TI TO i1 i2 a b D its.toArray its2.toArray
  obtain ⟨s1,s2,s3,s4,s5⟩:=st
  refine W.item i s _ E (by simp; omega) ⟨s1,s2,s3,s4,s5,p1.isList,p2.isList⟩ fun T vals h' tk hv hT ht hm kk=>?_
  obtain ⟨x,y,hx,hy,rfl⟩:=hv
  refine ⟨_,rfl,W.go es k ps i T _ _ E hm fun h2 st2 Td=>?_⟩
  have gx:xs[i]?=some (xs.getD i .non):=by
   have:i < xs.length:=by omega
   simp [List.getD,this]
  have gy:ys[i]?=some (ys.getD i .non):=by
   have:i < ys.length:=by omega
   simp [List.getD,this]
  obtain ⟨u1,hu1,q1⟩:=r1.get gx
  obtain ⟨u2,hu2,q2⟩:=r2.get gy
  have ex:u1=x:=by
   have:its[i]?=some x:=by simpa using hx
   rw [hu1] at this
   exact Option.some.inj this
  have ey:u2=y:=by
   have:its2[i]?=some y:=by simpa using hy
   rw [hu2] at this
   exact Option.some.inj this
  subst ex ey
  have wf:∀c,c∈[z,TO,i1,i2]→iC X pins H c:=fun c hc=>hf c (by simp at hc ⊢; rcases hc with rfl | rfl | rfl | rfl <;> simp)
  have Xr:H T=none:=I.hok.fresh hT
  have nT:T∉[z,TO,i1,i2]:=W.apart i T _ hm
  have kT:h2.get? T=h'.get? T:=by
   obtain ⟨o,e,_⟩:=id ht
   rw [Td T o nT e]
   exact e.symm
  obtain ⟨oT,eT,cT,nT',dT⟩:=id ht
  refine ⟨.ref T,upd H T (.tup [xs.getD i .non,ys.getD i .non]),I.t8 (fun c o hc e=>Td c o hc (kk c o hc e)) wf (aU.upd Xr) (fun c o e n=>?_) (fun c u e=>?_),rfl,⟨T,_,_,Xr,rfl,rfl,fun xs' ys' h1 h2=>?_⟩,?_,fun c hc=>?_⟩
  ·rw [aJ]
   ·exact n
   ·intro z
    subst z
    exact absurd (Heap.lt_size e) (Nat.not_lt.mpr hT)
  ·by_cases Xu:c=T
   ·subst Xu
    rw [aH] at e
    cases e
    refine .inr ⟨by show 2≤sizeLine; decide,[u1,u2],.cons q1 (.cons q2 .nil),oT,kT.trans eT,cT,nT',by simpa using dT⟩
   ·rw [aJ Xu] at e
    exact .inl e
  ·rw [I.uw h1 ha,I.uw h2 hb]
   exact ⟨gx,gy⟩
  ·exact ⟨st2.1,st2.2.1,st2.2.2.1,st2.2.2.2.1,st2.2.2.2.2.1⟩
  ·rw [aJ]
   ·exact (hf c hc).1
   ·intro z
    subst z
    obtain ⟨o,e,_⟩:∃o,s.heap.get? c=some o∧True:=by
     simp only [List.mem_cons,List.not_mem_nil,or_false] at hc
     obtain ⟨c1,d1,s3⟩:=s3
     obtain ⟨o4,e4,_⟩:=s4
     obtain ⟨o5,e5,_⟩:=s5
     rcases hc with rfl | rfl | rfl | rfl | rfl
     ·exact ⟨_,s1,trivial⟩
     ·exact ⟨_,s2,trivial⟩
     ·exact ⟨_,s3,trivial⟩
     ·exact ⟨_,e4,trivial⟩
     ·exact ⟨_,e5,trivial⟩
    exact absurd (Heap.lt_size e) (Nat.not_lt.mpr hT)
 done:=by
  intro X hP hw hK hc i pins s σ H E I hf st hg
  subst hP hw hK
  obtain ⟨xs,ys,ha,hb,hi⟩:=hg
  obtain ⟨its,r1,p1,_⟩:=I.list ha
  obtain ⟨its2,r2,p2,_⟩:=I.list hb
  have l1:=r1.length
  have l2:=r2.length
  have W:=WalksT.zip2 (prog:=X.prog) (w:=X.w) (A:=X.A) (I.ok.hd hc) z TI TO i1 i2 a b D its.toArray its2.toArray
  obtain ⟨s1,s2,s3,s4,s5⟩:=st
  have e:i=min its.toArray.size its2.toArray.size:=by simp; omega
  subst e
  refine W.done s _ E ⟨s1,s2,s3,s4,s5,p1.isList,p2.isList⟩ fun h' tk kk=>⟨rfl,?_⟩
  have wf:∀c,c∈[z,TO,i1,i2]→iC X pins H c:=fun c hc=>hf c (by simp at hc ⊢; rcases hc with rfl | rfl | rfl | rfl <;> simp)
  exact I.t8 kk wf (aU.refl H) (fun _ _ _ n=>n) fun _ _ e=>.inl e
 self:=fun _ _ _ _ _ st h=>wpAny_pyIter_zip st.1 h
noncomputable def Z8 (K:PySem.W.Frag) (t:TA):TI:=fun σ H R=>t σ H fun vs H1=>∃a b xs ys,vs=[.ref a,.ref b]∧cO K H1 a xs∧cO K H1 b ys∧R (Z7 K a b) H1
theorem Vh {X:Cx} {es:List Expr} {k:Nat} {ps:Pos} {x y:Expr} {t:TA} {p pos:Pos} (hg:Gl X "zip") (hm:X.mg "zip"=none) (ha:PA X [x,y] t) (hs:starEach [x,y] X.env=[(false,eval x X.env),(false,eval y X.env)]:=by rfl) (hs2:starEach [y] X.env=[(false,eval y X.env)]:=by rfl):
  PI X (.Tuple es k ps) (.Call (.Name "zip" p) [x,y] [] pos) (Z8 X.K t):=by
 intro pins s σ H R I h
 refine Call_ (jy I hg hm PyProof.Rows.boot_zip (PyProof.Rows.callWith_type1 (cU (ha pos pins s σ H _ I h) fun us s1 aV=>?_) (by rw [hs,hs2]) (by rw [hs2]; rfl)))
 obtain ⟨vs,H1,I1,r1,q1⟩:=aV
 obtain ⟨a,b,xs,ys,e,h1,h2,q⟩:=q1
 subst e
 cases r1 with
 | cons r rr=>
  cases rr with
  | cons r' rr=>
   cases rr
   cases r
   cases r'
   obtain ⟨its,v1,p1,_⟩:=I1.list h1
   obtain ⟨its2,v2,p2,_⟩:=I1.list h2
   have Z9:a < s1.heap.objs.size:=by obtain ⟨_,e,_⟩:=p1.isList; exact Heap.lt_size e
   have KJ:b < s1.heap.objs.size:=by obtain ⟨_,e,_⟩:=p2.isList; exact Heap.lt_size e
   refine call_zip_2 p1.isList p2.isList fun h' g1 g2 g3 g4 g5 hsz kk=>?_
   refine wpAny_pyIter_zip g1 ?_
   have I2:Inv X pins σ H1 { s1 with heap:=h' }:=I1.kept (t':=s1.toks) kk
   refine ⟨s1.heap.objs.size + 4,[s1.heap.objs.size + 4,s1.heap.objs.size + 2,s1.heap.objs.size + 3,s1.heap.objs.size,s1.heap.objs.size + 1],_,_,H1,rfl,I2,Mm (zipApart_new Z9 KJ),⟨g1,g2,⟨_,_,g3⟩,g4,g5⟩,fun c hc=>?_,q⟩
   refine I1.yU ?_ (I1.hok.fresh ?_)
   all_goals
    simp only [List.mem_cons,List.not_mem_nil,or_false] at hc
    rcases hc with rfl | rfl | rfl | rfl | rfl <;> omega
theorem El {X:Cx} {pins:List (Addr×Obj)} {σ:St} {H:Hp} {s:Shared} {A:Around} {E:Value→Shared→Prop} {Q:Value→Shared→Prop} {b:Bool} {c:Addr} {its:List Value} {x:V} {u t:Value} (I:Inv X pins σ H s) (rx:RelV x u) (ty:mj X.K H x t) (e:PySem.W.kitAny X.K t its=some b)
  (hc:s.heap.IsTuple c its.toArray) (h:∀tk,Q (.bool b) { s with toks:=tk }):wpAny (model X.prog X.w) A (call (.builtin "isinstance") [u,.ref c]) Q E s:=by
 obtain ⟨⟨oc,od,oda,osl⟩,g1,g2,g3,g4⟩:=hc
 simp only at g2 g4
 subst g2 g4
 cases ty with
 | non=>cases (show u=Value.none from rx); exact PySem.W.kia_tup PySem.W.kitx_none I.pO True.intro g1 e (fun z=>nomatch z) h
 | bl y=>cases (show u=Value.bool y from rx); exact PySem.W.kia_tup PySem.W.kitx_bool I.pO True.intro g1 e (fun z=>nomatch z) h
 | int i=>obtain ⟨t,q⟩:=(show ∃t,u=Value.int i t from rx); cases q; exact PySem.W.kia_tup PySem.W.kitx_int I.pO True.intro g1 e (fun z=>nomatch z) h
 | str y=>obtain ⟨t,q⟩:=(show ∃t,u=Value.str y t from rx); cases q; exact PySem.W.kia_tup PySem.W.kitx_str I.pO True.intro g1 e (fun z=>nomatch z) h
 | flt y=>obtain ⟨t,q⟩:=(show ∃t,u=Value.float y t from rx); cases q; exact PySem.W.kia_tup PySem.W.kitx_float I.pO True.intro g1 e (fun z=>nomatch z) h
 | @lst a xs ea=>
  cases (show u=Value.ref a from rx)
  obtain ⟨_,_,n,_,h1⟩:=(show bW X.prog X.w H s.heap a (.lst xs) from I.hok a _ ea)
  exact PySem.W.kia_tup PySem.W.kitx_list I.pO ⟨_,h1,rfl⟩ g1 e (fun z=>nomatch z) h
 | @Al a ob xs ea=>
  cases (show u=Value.ref a from rx)
  obtain ⟨_,_,_,n,_,h1⟩:=(show bW X.prog X.w H s.heap a (.Al ob (.lst xs)) from I.hok a _ ea)
  exact PySem.W.kia_tup PySem.W.kitx_list I.pO ⟨_,h1,rfl⟩ g1 e (fun z=>nomatch z) h
 | @tup a xs ea=>
  cases (show u=Value.ref a from rx)
  obtain ⟨_,_,_,p⟩:=(show bW X.prog X.w H s.heap a (.tup xs) from I.hok a _ ea)
  obtain ⟨o,h1,h2,_⟩:=p
  exact PySem.W.kia_tup PySem.W.kitx_tuple I.pO ⟨o,h1,h2⟩ g1 e (fun z=>nomatch z) h
 | @dK a kvs ea=>
  cases (show u=Value.ref a from rx)
  obtain ⟨_,_,vs,_,p⟩:=(show bW X.prog X.w H s.heap a (.dK kvs) from I.hok a _ ea)
  obtain ⟨o,es,ep,h1,h2,_⟩:=p
  exact PySem.W.kia_tup PySem.W.kitx_dict I.pO ⟨o,h1,h2.1⟩ g1 e (fun z=>nomatch z) h
 | @dT a kvs ea=>
  cases (show u=Value.ref a from rx)
  obtain ⟨_,_,xs,_,o,es,ep,h1,h2,_⟩:=(show bW X.prog X.w H s.heap a (.dT kvs) from I.hok a _ ea)
  exact PySem.W.kia_tup PySem.W.kitx_dict I.pO ⟨o,h1,h2.1⟩ g1 e (fun z=>nomatch z) h
 | @ins a C dx fs ea cl ha hn htk hm=>
  cases (show u=Value.ref a from rx)
  obtain ⟨mA,O,_⟩:=GR I.hok ea
  obtain ⟨od,J,_⟩:=O.look
  exact PySem.W.kia_tup (PySem.W.kitx_own (cl.get _) cl.hd ha hn htk hm) I.pO J g1 e (fun z=>nomatch z) h
theorem zp {X:Cx}:cD X (.builtin "isinstance") (fun xs H Q=>∃x c m n t p q,xs=[x,.ref c]∧H c=some (.tup [.ty m,.ty n])∧mj X.K H x t∧PySem.W.kitOne X.K t (.type m)=some p∧PySem.W.kitOne X.K t (.type n)=some q∧Q (.bl (p || q)) H):=by
 intro pins s σ H xs us Q I r h
 obtain ⟨x,c,m,n,t,p,q,rfl,hc,ty,e1,e2,k⟩:=h
 obtain ⟨u,u2,rfl,r1,r2⟩:=vals2 r
 cases r2
 obtain ⟨_,its,rv,ob,g1,g2,g3⟩:=(show bW X.prog X.w H s.heap c (.tup [.ty m,.ty n]) from I.hok c _ hc)
 cases rv with
 | cons a1 rv=>
  cases rv with
  | cons a2 rv=>
   cases rv
   cases a1
   cases a2
   exact El I r1 ty (Qx e1 e2) ⟨ob,g1,g2,g3⟩ fun tk=>⟨.bl (p || q),H,I.tok tk,rfl,k⟩
end L2
namespace L2
open PySem PySem.Spec PyProof.Rows PySem.W
section
variable {N:Nat} {lt:Nat→Nat→Bool} {α β:Type}
noncomputable def bQ (N:Nat) (lt:Nat→Nat→Bool):KasT α→(α→Prop)→Prop
 | .ret a,R=>R a
 | .ask i j k,R=>i < N∧j < N∧bQ N lt (k (lt i j)) R
theorem bQ.mono {R S:α→Prop}:∀{t:KasT α},bQ N lt t R→(∀a,R a→S a)→bQ N lt t S
 | .ret a,h,f=>f a h
 | .ask i j k,h,f=>⟨h.1,h.2.1,bQ.mono h.2.2 f⟩
theorem bQ.bind {f:α→KasT β} {R:β→Prop}:∀{t:KasT α},bQ N lt t (fun a=>bQ N lt (f a) R)→bQ N lt (t.bind f) R
 | .ret a,h=>h
 | .ask i j k,h=>⟨h.1,h.2.1,bQ.bind h.2.2⟩
theorem bQ.wp {cmp:Nat→Nat→(Bool→Shared→Prop)→Shared→Prop} {R:α→Prop} {Q:α→Shared→Prop} {s:Shared} (ask:∀i j,i < N→j < N→∀C:Bool→Shared→Prop,C (lt i j) s→cmp i j C s) (q:∀a,R a→Q a s):∀{t:KasT α},bQ N lt t R→t.kasWp cmp Q s
 | .ret a,h=>q a h
 | .ask i j k,h=>ask i j h.1 h.2.1 _ (bQ.wp ask q h.2.2)
noncomputable def KP (N:Nat) (p:Array Nat):Prop:=p.toList.Perm (List.range N)
theorem KP.ix {p:Array Nat} (h:KP N p) (h0:0 < N) (i:Nat):p.getD i 0 < N:=by
 by_cases hi:i < p.size
 ·have:p.getD i 0∈p.toList:=by simp [Array.getD,hi]
  exact List.mem_range.mp (h.mem_iff.mp this)
 ·simpa [Array.getD,hi] using h0
theorem KP.rev {p:Array Nat} (h:KP N p) (i j:Nat):KP N (kas_rev p i j):=((mirror_perm p i j _).toList).trans h
theorem KP.bub {p:Array Nat} (h:KP N p) (i j:Nat):KP N (bubble p i j):=((bubble_perm p i j).toList).trans h
theorem Em {p:Array Nat} (h:KP N p) (h0:0 < N):∀f n,bQ N lt (kas_asc p f n) fun _=>True
 | 0,n=>trivial
 | f + 1,n=>by
  refine ⟨h.ix h0 _,h.ix h0 _,?_⟩
  dsimp only
  split
  ·exact trivial
  ·exact Em h h0 f (n + 1)
theorem uc (h0:0 < N):∀f (p:Array Nat) n q,KP N p→bQ N lt (kas_desc f p n q) fun r=>KP N r.1
 | 0,p,n,q,h=>h
 | f + 1,p,n,q,h=>by
  refine ⟨h.ix h0 _,h.ix h0 _,?_⟩
  dsimp only
  split
  ·split
   ·exact uc h0 f _ _ _ (h.rev _ _)
   ·exact uc h0 f _ _ _ h
  ·refine ⟨h.ix h0 _,h.ix h0 _,?_⟩
   dsimp only
   split
   ·exact h
   ·exact uc h0 f _ _ _ h
theorem Be (h0:0 < N) {p:Array Nat} (h:KP N p) (n nrem:Nat):bQ N lt (kas_tail3 n nrem p) fun r=>KP N r.2:=
 bQ.bind (bQ.mono (Em (h.rev 0 n) h0 _ _) fun _ _=>h.rev 0 n)
theorem sW (h0:0 < N) {p:Array Nat} (h:KP N p) (n nrem:Nat):bQ N lt (kas_descPart n nrem p) fun r=>KP N r.2:=by
 refine bQ.bind (bQ.mono (uc h0 _ p _ _ h) fun r hr=>?_)
 split
 ·exact Be h0 (KP.rev hr _ _) _ _
 ·exact Be h0 hr _ _
theorem Mp (h0:0 < N) {p:Array Nat} (h:KP N p) (nrem:Nat):bQ N lt (kas_count nrem p) fun r=>KP N r.2:=by
 refine bQ.bind (bQ.mono (Em h h0 _ _) fun n _=>?_)
 split
 ·exact h
 ·split
  ·refine ⟨h.ix h0 _,h.ix h0 _,?_⟩
   dsimp only
   split
   ·exact h
   ·exact sW h0 (h.rev _ _) _ _
  ·exact sW h0 h _ _
theorem uE (h0:0 < N) {p:Array Nat} (h:KP N p) (k:Nat):∀f l r,bQ N lt (kas_place p k f l r) fun _=>True
 | 0,l,r=>trivial
 | f + 1,l,r=>by
  unfold kas_place
  split
  ·exact trivial
  ·refine ⟨h.ix h0 _,h.ix h0 _,?_⟩
   dsimp only
   split
   ·exact uE h0 h k f _ _
   ·exact uE h0 h k f _ _
theorem Mq (h0:0 < N):∀f (p:Array Nat) k,KP N p→bQ N lt (kas_bin f p k) (KP N)
 | 0,p,k,h=>h
 | f + 1,p,k,h=>bQ.bind (bQ.mono (uE h0 h k _ _ _) fun l _=>Mq h0 f _ _ (h.bub _ _))
theorem G6 (h0:0 < N):bQ N lt (kas_sort N) (KP N):=by
 refine bQ.bind (bQ.mono (Mp h0 (p:=List.toArray (List.range N)) (List.Perm.refl _) N) fun r hr=>?_)
 split
 ·exact Mq h0 _ _ _ hr
 ·exact hr
end
noncomputable def kLt:Key→Key→Bool
 | .inl i,.inl j=>decide (i < j)
 | .inr x,.inr y=>decide (x.cps.toList < y.cps.toList)
 | _,_=>false
noncomputable def jC:List Key→List Key→Bool
 | a::r,b::t=>if a=b then jC r t else kLt a b
 | _,_=>false
noncomputable def fV:Key→Bool
 | .inl _=>true
 | .inr _=>false
section
variable {prog:Program} {w:World} {A:Around} {E:Value→Shared→Prop} {s:Shared} {Q:Bool→Shared→Prop}
theorem Mr {a b:Key} {u v:Value} {f:Bool} (ra:RelV (kV a) u) (rb:RelV (kV b) v) (ht:fV a=fV b) (h:Q (kLt a b) s):wpAny (model prog w) A (oneLt' f u v) Q E s:=by
 cases a with
 | inl i=>
  cases b with
  | inr y=>cases ht
  | inl j=>
   obtain ⟨t,rfl⟩:=ra
   obtain ⟨t',rfl⟩:=rb
   cases f with
   | true=>exact oneLt_int h
   | false=>exact kat_one _ _ (lt_int h)
 | inr x=>
  cases b with
  | inl y=>cases ht
  | inr y=>
   obtain ⟨t,rfl⟩:=ra
   obtain ⟨t',rfl⟩:=rb
   cases f with
   | true=>exact oneLt_str h
   | false=>exact kat_one _ _ (lt_str h)
theorem G7 {a b:Key} (ht:fV a=fV b):Lx (kV a) (kV b)=decide (a=b):=by
 cases a with
 | inl i=>
  cases b with
  | inr y=>cases ht
  | inl j=>show (i==j)=_; rw [Bool.eq_iff_iff]; simp
 | inr x=>
  cases b with
  | inl y=>cases ht
  | inr y=>show (x==y)=_; rw [Bool.eq_iff_iff]; simp
theorem p7 (a:Key):jR (kV a)=true:=by cases a <;> rfl
theorem Bg:∀{ks js:List Key} {us vs:List Value} {i:Nat},Vals (ks.map kV) us→Vals (js.map kV) vs→ks.map fV=js.map fV→Q (jC ks js) s→KatLex prog w A true false Q (us.zip vs) i s
 | [],[],_,_,_,ra,rb,_,h=>by
  cases ra
  cases rb
  exact kat_nil h
 | [],_::_,_,_,_,_,_,e,_=>by cases e
 | _::_,[],_,_,_,_,_,e,_=>by cases e
 | a::ks,b::js,us,vs,i,ra,rb,e,h=>by
  cases ra with
  | cons r1 ra=>
   cases rb with
   | cons r2 rb=>
    have e1:fV a=fV b:=(List.cons.inj e).1
    have e2:=(List.cons.inj e).2
    refine kat_cons (Ef r1 r2 (p7 a) (p7 b) prog w _ _ ?_)
    rw [G7 e1]
    unfold jC at h
    by_cases hab:a=b
    ·rw [if_pos hab] at h
     rw [decide_eq_true hab]
     exact kat_yes (Bg ra rb e2 h)
    ·rw [if_neg hab] at h
     rw [decide_eq_false hab]
     exact kat_no (Mr r1 r2 e1 h)
end
section
variable {prog:Program} {w:World} {A:Around} {E:Value→Shared→Prop} {s:Shared} {vs:List Value} {κ:SortKind} {lt:Nat→Nat→Bool} {Rl:List Nat→Prop}
noncomputable def Kp (a:Addr) (h h':Heap):Prop:=∀b o,b≠a→h.get? b=some o→h'.get? b=some o
theorem Eo {a:Addr} {n:Nat} {P:PySem.Fin→Shared→Prop} (ho:s.heap.get? a=some (seqObj "list" vs.toArray n)) (h64:vs.length < 64) (hg:2≤vs.length→bQ vs.length lt (kas_sort vs.length) fun p=>KP vs.length p∧Rl p.toList) (hsm:vs.length < 2→Rl (List.range vs.length))
  (hk:2≤vs.length→∀s':Shared,Kp a s.heap s'.heap→∀Q:SortKind→Shared→Prop,Q κ s'→wpAny (model prog w) A (keyKind' vs.toArray) Q (fun _ _=>False) s')
  (hl:2≤vs.length→∀s':Shared,Kp a s.heap s'.heap→∀i j,i < vs.length→j < vs.length→∀C:Bool→Shared→Prop,C (lt i j) s'→kas_ask prog w A κ vs i j C s')
  (h:∀(p:List Nat) (h':Heap) (c:Nat),p.Perm (List.range vs.length)→Rl p→Kp a s.heap h'→h'.get? a=some (seqObj "list" (p.map fun i=>vs.getD i Value.none).toArray c)→P (.done (.ret .none)) { s with heap:=h' }):
  wpAny (model prog w) A (Builtin.«list.sort» ⟨[.ref a],[]⟩) P E s:=by
 have lta:a < s.heap.objs.size:=Heap.lt_size ho
 obtain ⟨e1,ho1⟩:∃e1,(s.heap.update a (Obj.mapSeq fun _=>(#[]:Array Value))).get? a=some (seqObj "list" #[] e1):=⟨_,get?_update_seq ho fun _=>#[]⟩
 have sz:vs.length≤sizeLine:=by rw [sizeLine_eq]; omega
 have kp:Kp a s.heap (((s.heap.update a (Obj.mapSeq fun _=>(#[]:Array Value))).push (seqObj "tuple" vs.toArray 0)).push (seqObj "list" #[] 0)):=fun b o hb e=>
  Heap.get?_push_of_some _ (Heap.get?_push_of_some _ (((Heap.SameBut.update s.heap a _).2 b hb).trans e))
 have Xv:(((s.heap.update a (Obj.mapSeq fun _=>(#[]:Array Value))).push (seqObj "tuple" vs.toArray 0)).push (seqObj "list" #[] 0)).get? a=some (seqObj "list" #[] e1):=Heap.get?_push_of_some _ (Heap.get?_push_of_some _ ho1)
 rw [list_sort_plain]
 refine wpAny_bind (listItems_at ho rfl (wpAny_bind (listUpdate_at ho rfl (wpAny_bind (seqEpoch_at ho1 rfl (wpAny_bind (wpAny_newTuple (wpAny_bind (wpAny_newList (wpAny_holding ?_) (Nat.zero_le _))) (by show vs.length≤_; exact sz))))) (by rw [List.size_toArray]; exact sz) (Nat.zero_le _))))
 show wpAny (model prog w) A _ P E { s with heap:=((s.heap.update a (Obj.mapSeq fun _=>(#[]:Array Value))).push (seqObj "tuple" vs.toArray 0)).push (seqObj "list" #[] 0) }
 dsimp only
 have fin:∀(p:List Nat),p.Perm (List.range vs.length)→Rl p→∀out:Array Value,out=(p.map fun i=>vs.getD i Value.none).toArray→
   P (.done (.ret .none)) { s with heap:=(((s.heap.update a (Obj.mapSeq fun _=>(#[]:Array Value))).push (seqObj "tuple" vs.toArray 0)).push (seqObj "list" #[] 0)).update a (Obj.mapSeq fun _=>out) }:=fun p hp hrl out eo=>by
  subst eo
  refine h p _ _ hp hrl (fun b o hb e=>((Heap.SameBut.update _ a _).2 b hb).trans (kp b o hb e)) (get?_update_seq Xv _)
 by_cases h2:vs.toArray.size < 2
 ·rw [if_pos h2,if_pos h2]
  refine wpAny_bind (wpAny_pure ?_)
  rw [StateT.run_pure]
  refine wpAny_bind (wpAny_pure ?_)
  dsimp only
  have hz:(pairsOf vs).size≤sizeLine:=by rw [pairsOf_size]; exact sz
  refine wpAny_bind (seqEpoch_at Xv rfl (wpAny_bind (listUpdate_at Xv rfl ?_ (hsz2:=by rw [Array.size_map]; show (pairsOf vs).size≤_; omega))))
  simp only [bne_self_eq_false,Bool.false_eq_true,if_false]
  refine wpAny_pure (fin (List.range vs.length) (List.Perm.refl _) (hsm (by simpa using h2)) _ ?_)
  apply Array.toList_inj.mp
  show ((vs.toArray.zip vs.toArray).map (·.2)).toList=_
  rw [Array.toList_map,Array.toList_zip,List.map_snd_zip (Nat.le_refl _)]
  show vs=_
  refine List.ext_getElem (by simp) fun i h1 h3=>?_
  simp [List.getD,h1]
 ·have h2':2≤vs.length:=by simpa using h2
  rw [if_neg h2,if_neg h2]
  refine wpAny_bind (wpAny_mono (hk h2' _ kp (fun k s'=>k=κ∧s'={ s with heap:=((s.heap.update a (Obj.mapSeq fun _=>(#[]:Array Value))).push (seqObj "tuple" vs.toArray 0)).push (seqObj "list" #[] 0) }) ⟨rfl,rfl⟩) (fun k s0 hk0=>?_) fun _ _ x=>x.elim)
  obtain ⟨rfl,rfl⟩:=hk0
  refine wpAny_bind (wpAny_mono (kat_run (ks:=vs) (vs:=vs) (Q:=fun st' s'=>∃p:Array Nat,(KP vs.length p∧Rl p.toList)∧arrOf st'=p.map (kas_item (vs.toArray.zip vs.toArray))∧failedOf st'=none∧s'={ s with heap:=((s.heap.update a (Obj.mapSeq fun _=>(#[]:Array Value))).push (seqObj "tuple" vs.toArray 0)).push (seqObj "list" #[] 0) })
   rfl h2' h64 (G:=fun p s'=>(KP vs.length p∧Rl p.toList)∧s'={ s with heap:=((s.heap.update a (Obj.mapSeq fun _=>(#[]:Array Value))).push (seqObj "tuple" vs.toArray 0)).push (seqObj "list" #[] 0) }) (fun p st' s' a1 a2 a3 a4=>⟨p,a4.1,a2,a3,a4.2⟩) (bQ.wp (lt:=lt) (hl h2' _ kp) (fun p hp=>⟨hp,rfl⟩) (hg h2'))) ?_ fun _ _ e=>e)
  rintro ⟨⟨⟩,st'⟩ s' ⟨p,⟨hp,hrl⟩,har,hf,rfl⟩
  dsimp only
  have hout:=kat_snds (ks:=vs) (vs:=vs) rfl har
  have hps:p.toList.length=vs.length:=by rw [hp.length_eq,List.length_range]
  rw [hout]
  refine wpAny_bind (seqEpoch_at Xv rfl (wpAny_bind (listUpdate_at Xv rfl ?_ (Nat.zero_le _) (by rw [List.size_toArray,List.length_map,hps]; omega))))
  rw [hf]
  simp only [bne_self_eq_false,Bool.false_eq_true,if_false]
  exact wpAny_pure (fin p.toList hp hrl _ rfl)
theorem sX {r:Addr} {Q:Value→Shared→Prop} (h64:vs.length < 64) (hg:2≤vs.length→bQ vs.length lt (kas_sort vs.length) fun p=>KP vs.length p∧Rl p.toList) (hsm:vs.length < 2→Rl (List.range vs.length))
  (hc:∀R:List Value→Shared→Prop,(∀us h1 tk,s.heap.objs.size≤h1.objs.size→(∀b o,s.heap.get? b=some o→h1.get? b=some o)→us=vs→R us { s with heap:=h1,toks:=tk })→wpAny (model prog w) A.in1 (collect (.ref r)) R E s)
  (hk:2≤vs.length→∀s':Shared,(∀b o,s.heap.get? b=some o→s'.heap.get? b=some o)→∀Q:SortKind→Shared→Prop,Q κ s'→wpAny (model prog w) A.in1.in1 (keyKind' vs.toArray) Q (fun _ _=>False) s')
  (hl:2≤vs.length→∀s':Shared,(∀b o,s.heap.get? b=some o→s'.heap.get? b=some o)→∀i j,i < vs.length→j < vs.length→∀C:Bool→Shared→Prop,C (lt i j) s'→kas_ask prog w A.in1.in1 κ vs i j C s')
  (h:∀(p:List Nat) (D:Addr) (h':Heap) (c tk:Nat),p.Perm (List.range vs.length)→Rl p→s.heap.objs.size≤D→(∀b o,s.heap.get? b=some o→h'.get? b=some o)→h'.get? D=some (seqObj "list" (p.map fun i=>vs.getD i Value.none).toArray c)→Q (.ref D) { s with heap:=h',toks:=tk }):
  wpAny (model prog w) A (call (.builtin "sorted") [.ref r]) Q E s:=by
 refine Calls.call_function_entry kind_sorted plain_sorted entry_sorted (args_sorted1 _) ?_
 unfold Builtin.«sorted»
 refine wpAny_bind (m:=checkCount "sorted" 1 1 _) (wpAny_pure (wpAny_bind (hc _ fun us h1 tk hsz kk eu=>?_)))
 subst eu
 refine wpAny_bind (wpAny_newList ?_ (by rw [sizeLine_eq]; omega))
 have hoL:(h1.push (seqObj "list" us.toArray 0)).get? h1.objs.size=some (seqObj "list" us.toArray 0):=Heap.get?_push_size _ rfl
 have ltD:∀b o,s.heap.get? b=some o→b≠h1.objs.size:=fun b o e=>Nat.ne_of_lt (Heap.lt_size (kk b o e))
 have up:∀s':Shared,Kp h1.objs.size (h1.push (seqObj "list" us.toArray 0)) s'.heap→∀b o,s.heap.get? b=some o→s'.heap.get? b=some o:=fun s' k b o e=>k b o (ltD b o e) (Heap.get?_push_of_some _ (kk b o e))
 refine wpAny_bind (wpAny_holding (wpAny_call_entry slot_list_sort ⟨_,hoL,rfl⟩ entry_list_sort (Eo (κ:=κ) (lt:=lt) (s:={ s with heap:=h1.push (seqObj "list" us.toArray 0),toks:=tk }) hoL h64 hg hsm (fun h2 s' k=>hk h2 s' (up s' k)) (fun h2 s' k=>hl h2 s' (up s' k)) fun p h' c hp hrl k e=>⟨_,rfl,?_⟩) (args_list_sort _)))
 exact wpAny_pure ⟨_,rfl,h p h1.objs.size h' c tk hp hrl hsz (up { s with heap:=h' } k) e⟩
end
end L2
namespace L2
open PySem PySem.Spec PyProof.Rows PySem.W
noncomputable def Bh (h:Heap) (d:Addr) (es:Array DictEntry) (ep:Nat):Prop:=∃o,h.get? d=some o∧o.ExactDict∧o.data=.dict es ep
section
variable {prog:Program} {w:World} {A:Around} {E:Value→Shared→Prop} {s:Shared} {d it:Addr} {es:Array DictEntry} {ep i:Nat}
theorem Bh.ty (h:Bh s.heap d es ep):s.TypeIs (.ref d) "dict":=let ⟨o,ho,hc,_⟩:=h; ⟨o,ho,hc.1⟩
theorem Ms {Q:Value→Shared→Prop} (hd:(d==sysModules)=false) (hm:Bh s.heap d es ep)
  (hQ:Q (.ref s.heap.objs.size) { s with heap:=s.heap.push { cls:=.type "dict_keyiterator",data:=.fields #[.ref d,.int 0 0,.int es.size 0,.int ep 0] } }):wpAny (model prog w) A (pyIter (.ref d)) Q E s:=by
 obtain ⟨o,ho,hc,hdat⟩:=id hm
 have hT:=hm.ty
 refine wpAny_pyIter_slot hT F.slot_dict_iter (wpAny_call_entry F.slot_dict_iter hT F.entry_dict_iter ?_ (F.args_dict_iter_1 _)); unfold Builtin.«dict.__iter__»
 refine wpAny_bind ?_; unfold Builtin.Dict.dictSlotNone
 refine wpAny_bind (wpAny_notOrdered_dict hT ?_); show wpAny _ _ (pure (Value.ref d)) _ _ s
 refine wpAny_pure ?_; show wpAny _ _ (Builtin.Dict.showsAll d >>= _) _ _ s
 unfold Builtin.Dict.showsAll; rw [if_neg (by rw [hd]; exact Bool.false_ne_true)]
 refine wpAny_bind (wpAny_pure (wpAny_bind (wpAny_dictEntries ho hdat (wpAny_bind (wpAny_dictEpoch ho hdat ?_)))))
 refine wpAny_bind (wpAny_newObj_type (wpAny_pure ⟨_,rfl,"dict_keyiterator",_,⟨_,Heap.get?_push_size _ rfl,rfl⟩,F.slot_dict_keyiterator_next.lookup,?_⟩)); simpa [rawInt] using hQ
theorem Mt {Q:Option Value→Shared→Prop} (hit:s.heap.IsKeyIter it d i es.size ep) (hm:Bh s.heap d es ep) (hlt:i < es.size)
  (hQ:∀h',h'.IsKeyIter it d (i + 1) es.size ep→Heap.SameBut it s.heap h'→Q (some es[i].key) { s with heap:=h' }):wpAny (model prog w) A (pyNext (.ref it)) Q E s:=by
 obtain ⟨o,ho,hc,hd⟩:=id hit; obtain ⟨od,hod,hcd,hdd⟩:=id hm
 unfold pyNext; refine wpAny_bind (wpAny_attempt (wpAny_callSpecial?_slot (name:=Str.ofString "__next__") hit.typeIs F.slot_dict_keyiterator_next (wpAny_call_entry F.slot_dict_keyiterator_next hit.typeIs F.entry_dict_keyiterator_next ?_ (F.args_dict_keyiterator_next_1 _))))
 refine wpAny_bind (wpAny_pure ?_); refine wpAny_bind ?_; refine wpAny_bind ?_
 first | refine wpAny_bind (wpAny_typeNameOfWhole_keyiter hit.typeIs (wpAny_pure (wpAny_bind (wpAny_fieldsOf ho hd ?_)))) | refine wpAny_bind (wpAny_typeNameOf_keyiter hit.typeIs (wpAny_pure (wpAny_bind (wpAny_fieldsOf ho hd ?_))))
 have own:Builtin.Dict_items.ownsTuple "dict_keyiterator"=false:=by decide
 simp only [own,Bool.false_eq_true,if_false]; show wpAny _ _ (if (Value.ref d==Value.none)=true then _ else _) _ _ s
 rw [if_neg (show ¬((Value.ref d==Value.none)=true) from Bool.false_ne_true)]; refine wpAny_bind (wpAny_pure (wpAny_bind (wpAny_dictEntries hod hdd ?_)))
 rw [if_neg (by simp)]; refine wpAny_bind (wpAny_pure (wpAny_bind (wpAny_dictEpoch hod hdd ?_)))
 rw [if_neg (by simp)]; refine wpAny_pure ?_
 simp only [show ¬((i:Int) < 0) from by omega,if_false,Int.toNat_natCast,Array.getElem?_eq_getElem hlt]; refine wpAny_bind ?_
 first | refine wpAny_bind (wpAny_typeNameOfWhole_keyiter hit.typeIs (wpAny_pure (wpAny_bind (wpAny_isOneOf_keyiter hit.typeIs ?_)))) | refine wpAny_bind (wpAny_typeNameOf_keyiter hit.typeIs (wpAny_pure (wpAny_bind (wpAny_isOneOf_keyiter hit.typeIs ?_))))
 show wpAny _ _ (setField (.ref it) 1 (rawInt ((i:Int) + 1)) >>= _) _ _ s; refine wpAny_bind (wpAny_setField ho hd (by simp) ?_)
 have hit':(s.heap.update it (Obj.mapFields (·.setIfInBounds 1 (rawInt ((i:Int) + 1))))).IsKeyIter it d (i + 1) es.size ep:=⟨_,Heap.get?_update_self _ ho (Obj.isFreed_of_fields (Obj.data_mapFields hd _)),(Obj.cls_mapFields ..).trans hc,by rw [Obj.data_mapFields hd]; simp [rawInt]⟩
 refine wpAny_bind (wpAny_holding ?_); refine wpAny_bind (wpAny_isOneOf_keyiter (s:={ s with heap:=s.heap.update it (Obj.mapFields (·.setIfInBounds 1 (rawInt ((i:Int) + 1)))) }) hit'.typeIs ?_)
 show wpAny _ _ (pure es[i].key) _ _ _; exact wpAny_pure (wpAny_pure ⟨_,rfl,wpAny_pure (hQ _ hit' (Heap.SameBut.update ..))⟩)
theorem Qy {Q:Option Value→Shared→Prop} (hh:A.handled=none) (hit:s.heap.IsKeyIter it d i es.size ep) (hm:Bh s.heap d es ep) (hge:es.size≤i)
  (hQ:∀h',Heap.ExtBut it s.heap h'→Q none { s with heap:=h' }):wpAny (model prog w) A (pyNext (.ref it)) Q E s:=by
 obtain ⟨o,ho,hc,hd⟩:=id hit; obtain ⟨od,hod,hcd,hdd⟩:=id hm
 unfold pyNext; refine wpAny_bind (wpAny_attempt (wpAny_callSpecial?_slot (name:=Str.ofString "__next__") hit.typeIs F.slot_dict_keyiterator_next (wpAny_call_entry F.slot_dict_keyiterator_next hit.typeIs F.entry_dict_keyiterator_next ?_ (F.args_dict_keyiterator_next_1 _))))
 refine wpAny_bind (wpAny_pure ?_); refine wpAny_bind ?_; refine wpAny_bind ?_
 first | refine wpAny_bind (wpAny_typeNameOfWhole_keyiter hit.typeIs (wpAny_pure (wpAny_bind (wpAny_fieldsOf ho hd ?_)))) | refine wpAny_bind (wpAny_typeNameOf_keyiter hit.typeIs (wpAny_pure (wpAny_bind (wpAny_fieldsOf ho hd ?_))))
 have own:Builtin.Dict_items.ownsTuple "dict_keyiterator"=false:=by decide
 simp only [own,Bool.false_eq_true,if_false]; show wpAny _ _ (if (Value.ref d==Value.none)=true then _ else _) _ _ s
 rw [if_neg (show ¬((Value.ref d==Value.none)=true) from Bool.false_ne_true)]; refine wpAny_bind (wpAny_pure (wpAny_bind (wpAny_dictEntries hod hdd ?_)))
 rw [if_neg (by simp)]; refine wpAny_bind (wpAny_pure (wpAny_bind (wpAny_dictEpoch hod hdd ?_)))
 rw [if_neg (by simp)]; refine wpAny_pure ?_
 simp only [show ¬((i:Int) < 0) from by omega,if_false,Int.toNat_natCast,Array.getElem?_eq_none hge]; refine wpAny_bind ?_
 first | refine wpAny_bind (wpAny_typeNameOfWhole_keyiter hit.typeIs (wpAny_pure ?_)) | refine wpAny_bind (wpAny_typeNameOf_keyiter hit.typeIs (wpAny_pure ?_))
 show wpAny _ _ (setField (.ref it) 0 .none >>= _) _ _ s; refine wpAny_bind (wpAny_setField ho hd (by simp) ?_)
 show wpAny _ _ (newExc (.type "StopIteration") [] >>= _) _ _ _; refine wpAny_bind ?_; simp only [newExc,newTuple]
 refine wpAny_bind (wpAny_newObj_type ?_ (by size_fits)); refine wpAny_bind (m:=firstArgMember _ _) (wpAny_of_eq (a:=Value.none) (by first | rfl | (simp only [firstArgMember]; rfl)) ?_)
 refine wpAny_newObj_type ?_ (by size_fits); simp only [raiseNew]; refine wpAny_bind (wpAny_handled ?_)
 rw [show A.in1.handled=none from hh]; refine wpAny_bind (wpAny_pure (wpAny_throw ?_))
 refine wpAny_bind (wpAny_isInstance (T:="StopIteration") (b:=true) ⟨_,Heap.get?_push_size _ rfl,rfl⟩ isSubtype_stop ?_); exact wpAny_pure (hQ _ (((Heap.SameBut.update ..).extBut.push _).push _))
theorem JN (hh:A.handled=none) (hne:d≠it):Walks prog w A it [it,d] [it] es.size (fun i v=>(es[i]?).map (·.key)=some v) (fun i h=>h.IsKeyIter it d i es.size ep∧Bh h d es ep) where
 sub:=fun b hb=>by simp at hb; simp [hb]
 frame:=fun _ _ _ st hk=>⟨st.1.at fun o e=>hk it (by simp) o e,let ⟨o,ho,r⟩:=st.2; ⟨o,hk d (by simp) o ho,r⟩⟩
 item:=fun i s Q E hi st hQ=>Mt st.1 st.2 hi fun h' hit' hs'=>hQ _ h' s.toks (by simp [hi]) ⟨hit',let ⟨o,ho,r⟩:=st.2; ⟨o,(hs'.2 d hne).trans ho,r⟩⟩ fun b o hb e=>(hs'.2 b fun z=>hb (by simp [z])).trans e
 done:=fun s Q E st hQ=>Qy hh st.1 st.2 (Nat.le_refl _) fun h' he'=>hQ h' s.toks fun b o hb e=>he' b o (fun z=>hb (by simp [z])) e
 self:=fun _ _ _ _ st hQ=>wpAny_pyIter_keyiter st.1 hQ
theorem Qz (lo:(d==sysModules)=false):KdlSrc prog w "dict" d d es.size (fun i v=>(es[i]?).map (·.key)=some v) (fun h=>Bh h d es ep) where
 type:=fun _ hm=>hm.ty
 there:=fun _ hm=>let ⟨_,ho,_⟩:=hm; ⟨Heap.lt_size ho,Heap.lt_size ho⟩
 keep:=fun _ _ hm hk=>let ⟨o,ho,r⟩:=hm; ⟨o,hk d (.inl rfl) o ho,r⟩
 notList:=by decide
 notTuple:=by decide
 hint:=fun _ _ _ _ hm hq=>kdl_hint_dict hm.ty hq
 iter:=fun _ _ hh hm=>⟨_,_,(fun _ _ hq=>Ms lo hm hq),JN hh (let ⟨_,ho,_⟩:=hm; Nat.ne_of_lt (Heap.lt_size ho)),⟨⟨_,Heap.get?_push_size _ rfl,rfl,rfl⟩,let ⟨o,ho,r⟩:=hm; ⟨o,Heap.get?_push_of_some _ ho,r⟩⟩⟩
theorem Bj {T:String} {r d:Addr} {n:Nat} {P:Nat→Value→Prop} {OK:Heap→Prop} {R:List Value→Shared→Prop} (K:KdlSrc prog w T r d n P OK) (hh:A.handled=none) (hok:OK s.heap) (hn:n≤sizeLine)
  (h:∀(h':Heap) (tk:Nat) (acc:Array Value),s.heap.objs.size≤h'.objs.size→(∀b o,s.heap.get? b=some o→h'.get? b=some o)→ItemsOf P acc n→R acc.toList { s with heap:=h',toks:=tk }):
  wpAny (model prog w) A (collect (.ref r)) R E s:=by
 have hlt:=K.there _ hok
 unfold collect; refine wpAny_bind (wpAny_runValue (codeAny_builtin entry_proto_collect' ?_)); rw [Around.under_plainId PySem.F.plain_proto_collect _]
 show wpAny _ A.in1 (newList [] >>= fun l=>again (.builtin "list.__iadd__" ⟨[l,.ref r],[]⟩)) _ _ s; refine wpAny_bind (wpAny_newObj_type ?_)
 refine wpAny_pure ⟨plainId_quiet PySem.F.plain_list_iadd _,codeAny_builtin entry_list_iadd' ?_⟩; rw [Around.under_plainId PySem.F.plain_list_iadd _]
 have hS:(s.heap.push { cls:=.type "list",data:=.seq ([]:List Value).toArray }).get? s.heap.objs.size=some { cls:=.type "list",data:=.seq #[] }:=Heap.get?_push_size _ rfl
 show wpAny _ A.in1 (Builtin.List.listExtendWith (.ref s.heap.objs.size) (.ref r) (.ref s.heap.objs.size)) _ _ _
 have key:=kdl_extend (A:=A) (s:={ s with heap:=s.heap.push { cls:=.type "list",data:=.seq ([]:List Value).toArray } }) (R:=fun (q:Result) (s':Shared)=>∃(h':Heap) (tk:Nat) (acc':Array Value) (c':Nat),q=.ok (.ret (.ref s.heap.objs.size))∧s'={ s with heap:=h',toks:=tk }∧(∀b o,s.heap.get? b=some o→h'.get? b=some o)∧h'.get? s.heap.objs.size=some { cls:=.type "list",dict:=none,data:=.seq acc' c',slots:=#[] }∧ItemsOf P acc' n)
  K hh (K.keep _ _ hok fun b _ o e=>Heap.get?_push_of_some _ e) s.heap.objs.size (Nat.ne_of_gt hlt.1) (Nat.ne_of_gt hlt.2) (.ref s.heap.objs.size) 0 hS (fun h' tk acc' c' hk hS' hacc=>⟨h',tk,acc',c',rfl,rfl,fun b o e=>hk b o (Nat.ne_of_lt (Heap.lt_size e)) (Heap.get?_push_of_some _ e),hS',hacc⟩) hn
 refine wpAny_mono key (fun fin s' x=>?_) fun e s' x=>?_
 ·cases fin with
  | done f=>
   obtain ⟨h',tk,acc',c',e,rfl,hk,hS',hacc⟩:=x
   cases e; show wpAny _ A (load s.heap.objs.size >>= _) _ _ _
   exact wpAny_bind (wpAny_load hS' (wpAny_pure (h h' tk acc' (Nat.le_of_lt (Heap.lt_size hS')) hk hacc)))
  | again c₁=>
   refine ⟨x.1,codeAny_mono x.2 fun q s₂ y=>?_⟩
   obtain ⟨h',tk,acc',c',rfl,rfl,hk,hS',hacc⟩:=y
   show wpAny _ A (load s.heap.objs.size >>= _) _ _ _; exact wpAny_bind (wpAny_load hS' (wpAny_pure (h h' tk acc' (Nat.le_of_lt (Heap.lt_size hS')) hk hacc)))
 ·obtain ⟨_,_,_,_,e',_⟩:=x; cases e'
end
end L2
namespace L2
open PySem PySem.Spec PyProof.Rows PySem.W
theorem nG:∀{us:List Value} {ns:List Str},StrsAre us ns→Vals (ns.map V.str) us
 | _,_,.nil=>.nil
 | _,_,.cons _ t r=>.cons ⟨t,rfl⟩ (nG r)
section
variable {X:Cx}
theorem qZ:cD X (.builtin "sorted") (fun xs H Q=>∃(p:Addr) (ns:List Int),xs=[.ref p]∧cO X.K H p (ns.map V.int)∧ns.length < 64∧∀(l:Addr) (ns':List Int),H l=none→ns'.Perm ns→ns'.Pairwise (·≤·)→Q (.ref l) (upd H l (.lst (ns'.map V.int)))):=by
 intro pins s σ H xs us Q I r h
 obtain ⟨p,ns,rfl,hp,h64,q⟩:=h
 obtain ⟨u,rfl,ru⟩:=vals1 r
 cases ru
 obtain ⟨its,rv,pl,_⟩:=I.list hp
 have hi:IntsAre its ns:=intsAre_of rv
 have hl:=rv.length
 rw [List.length_map] at hl
 refine sorted_ints pl.isList hi (by omega) fun out ns' a1 a2 a3=>?_
 obtain ⟨e,he⟩:=sortedAll_at s.heap its out
 have hz:ns'.length≤sizeLine:=by rw [a2.length_eq,sizeLine_eq]; omega
 exact ⟨.ref (s.heap.objs.size + 1),_,I.laid (o:=.lst (ns'.map V.int)) (t':=s.toks) (fun _ _=>sortedAll_old) (Nat.le_succ _) ⟨by rw [List.length_map]; exact hz,out.toList,e,qY a1,by simpa [seqObj] using he⟩,rfl,q _ ns' (I.hok.fresh (Nat.le_succ _)) a2 a3⟩
theorem q9:cD X (.builtin "sorted") (fun xs H Q=>∃(p:Addr) (ns:List Str),xs=[.ref p]∧cO X.K H p (ns.map V.str)∧ns.length < 64∧∀(l:Addr) (ns':List Str),H l=none→ns'.Perm ns→sortedS ns'=true→Q (.ref l) (upd H l (.lst (ns'.map V.str)))):=by
 intro pins s σ H xs us Q I r h
 obtain ⟨p,ns,rfl,hp,h64,q⟩:=h
 obtain ⟨u,rfl,ru⟩:=vals1 r
 cases ru
 obtain ⟨its,rv,pl,_⟩:=I.list hp
 have hi:StrsAre its ns:=oX rv
 have hl:=rv.length
 rw [List.length_map] at hl
 refine sorted_strs pl.isList hi (by omega) fun out ns' a1 a2 a3=>?_
 obtain ⟨e,he⟩:=sortedAll_at s.heap its out
 have hz:ns'.length≤sizeLine:=by rw [a2.length_eq,sizeLine_eq]; omega
 exact ⟨.ref (s.heap.objs.size + 1),_,I.laid (o:=.lst (ns'.map V.str)) (t':=s.toks) (fun _ _=>sortedAll_old) (Nat.le_succ _) ⟨by rw [List.length_map]; exact hz,out.toList,e,nG a1,by simpa [seqObj] using he⟩,rfl,q _ ns' (I.hok.fresh (Nat.le_succ _)) a2 a3⟩
theorem fH.aO {k:Nat} {A:Around} (r:fH k A):A.units + 1 < cLine:=by have:=r.un; omega
noncomputable abbrev Row:=Addr×List Key
noncomputable def TupAt (h:Heap) (r:Row):Prop:=∃its,Vals (r.2.map kV) its∧IsTup h r.1 its.toArray
theorem TupAt.keep {h h':Heap} {r:Row} (t:TupAt h r) (k:∀b o,h.get? b=some o→h'.get? b=some o):TupAt h' r:=by
 obtain ⟨its,v,o,e,c⟩:=t
 exact ⟨its,v,o,k _ _ e,c⟩
theorem G8 {h:Heap} {b:Bool} {sh:List Bool}:∀{rows:List Row},(∀r∈rows,TupAt h r∧r.2.map fV=b::sh)→∃fs,KatTups h (rows.map fun r=>Value.ref r.1) fs∧fs.length=rows.length∧∀f∈fs,∃k,RelV (kV k) f∧fV k=b
 | [],_=>⟨[],KatTups.nil,rfl,by simp⟩
 | r::rows,ha=>by
  obtain ⟨fs,t,l,g⟩:=G8 (rows:=rows) fun q hq=>ha q (List.mem_cons_of_mem _ hq)
  obtain ⟨⟨its,v,o,e,c,n,d⟩,s⟩:=ha r List.mem_cons_self
  obtain ⟨a,ks⟩:=r
  cases ks with
  | nil=>cases s
  | cons k ks=>
   cases v with
   | @cons _ u _ us v1 v2=>
    refine ⟨u::fs,KatTups.cons e c d (by simp) t,by simp [l],fun f hf=>?_⟩
    rcases List.mem_cons.mp hf with rfl | hf
    ·exact ⟨k,v1,(List.cons.inj s).1⟩
    ·exact g f hf
theorem JP {M:Model} {h:Heap} {k:Key} {f:Value} {b:Bool} (r:RelV (kV k) f) (e:fV k=b):Looks M h (typeOf f) (if b=true then .type "int" else .type "str"):=by
 subst e
 cases k with
 | inl i=>obtain ⟨t,rfl⟩:=r; exact Looks.of_pure rfl
 | inr i=>obtain ⟨t,rfl⟩:=r; exact Looks.of_pure rfl
theorem uF (rows:List Row) {i:Nat} (hi:i < rows.length):(rows.map fun r=>Value.ref r.1).getD i Value.none=.ref rows[i].1:=by simp [List.getD,hi]
noncomputable def rowAt (rows:List Row) (i:Nat):List Key:=((rows[i]?).map (·.2)).getD []
theorem xX {prog:Program} {w:World} {A:Around} {s':Shared} {rows:List Row} {b:Bool} {sh:List Bool} (ha:∀r∈rows,TupAt s'.heap r∧r.2.map fV=b::sh) (h0:0 < rows.length) (Q:SortKind→Shared→Prop) (q:Q (tuples' true) s'):
  wpAny (model prog w) A (keyKind' (rows.map fun r=>Value.ref r.1).toArray) Q (fun _ _=>False) s':=by
 obtain ⟨fs,t,l,g⟩:=G8 ha
 refine kat_kind (T:=if b=true then .type "int" else .type "str") t (by omega) (fun v hv=>?_) (by cases b <;> rfl) (by cases b <;> exact q)
 obtain ⟨k,r,e⟩:=g v hv
 exact JP r e
theorem QB {prog:Program} {w:World} {A:Around} {s':Shared} {rows:List Row} {sh:List Bool} (ha:∀r∈rows,TupAt s'.heap r∧r.2.map fV=sh) {i j:Nat} (hi:i < rows.length) (hj:j < rows.length) (C:Bool→Shared→Prop) (q:C (jC (rowAt rows i) (rowAt rows j)) s'):
  kas_ask prog w A (tuples' true) (rows.map fun r=>Value.ref r.1) i j C s':=by
 obtain ⟨⟨its,v,o,e,c,n,d⟩,s1⟩:=ha rows[i] (List.getElem_mem hi)
 obtain ⟨⟨its2,v2,o2,e2,c2,n2,d2⟩,s2⟩:=ha rows[j] (List.getElem_mem hj)
 unfold kas_ask
 rw [uF rows hi,uF rows hj]
 have l1:=v.length
 have l2:=v2.length
 have l3:rows[i].2.length=rows[j].2.length:=by
  have:=congrArg List.length (s1.trans s2.symm)
  simpa using this
 refine kat_lt e d e2 d2 ?_
 have ez:decide (its.toArray.size < its2.toArray.size)=false:=by
  rw [decide_eq_false]
  simp only [List.size_toArray]
  rw [List.length_map] at l1 l2
  omega
 rw [ez]
 have q':C (jC rows[i].2 rows[j].2) s':=by
  unfold rowAt at q
  rw [List.getElem?_eq_getElem hi,List.getElem?_eq_getElem hj] at q
  exact q
 exact Bg (by simpa using v) (by simpa using v2) (s1.trans s2.symm) q'
theorem rm {rows:List Row} {p:List Nat} (h:p.Perm (List.range rows.length)):(p.map fun i=>rows.getD i (0,[])).Perm rows:=by
 have e:(List.range rows.length).map (fun i=>rows.getD i (0,[]))=rows:=List.ext_getElem (by simp) fun i h1 h2=>by simp [List.getD,h2]
 exact (h.map _).trans (by rw [e])
theorem xY {rows:List Row} {p:List Nat} (h:p.Perm (List.range rows.length)):(p.map fun i=>(rows.map fun r=>Value.ref r.1).getD i Value.none)=(p.map fun i=>rows.getD i (0,[])).map fun r=>Value.ref r.1:=by
 rw [List.map_map]
 refine List.map_congr_left fun i hi=>?_
 have hlt:=List.mem_range.mp (h.mem_iff.mp hi)
 rw [uF rows hlt]
 simp [List.getD,hlt]
theorem G9:∀{rows:List Row} {us:List Value},Vals (rows.map fun r=>V.ref r.1) us→us=rows.map fun r=>Value.ref r.1
 | [],_,h=>by cases h; rfl
 | r::rows,_,h=>by
  cases h with
  | cons a b=>
   cases a
   rw [G9 b]
   rfl
theorem rA:∀(rows:List Row),Vals (rows.map fun r=>V.ref r.1) (rows.map fun r=>Value.ref r.1)
 | []=>.nil
 | r::rows=>.cons rfl (rA rows)
end
end L2
namespace L2
open PySem PySem.Spec PyProof.Rows PySem.W
section
variable {K:PySem.W.Frag} {T:n6} {J:It} {n:Nat} {vs:Nat→List V} {G:Hp→Prop} {ts:TT} {em:TM} {fs:St} {H0 H1:Hp} {D:Addr} {done:Hp→Prop}
end
end L2
namespace L2
open PySem PySem.Spec PyProof.Rows PySem.W
theorem Mu (A:Around) (s:Shared) {a b:Key} {u v:Value} (ra:RelV (kV a) u) (rb:RelV (kV b) v) (ht:fV a=fV b):SeqAt.EqAt A s u v (decide (a=b)):=by
 rw [←G7 ht]
 exact Ef ra rb (p7 a) (p7 b)
theorem Bl (A:Around) (s:Shared) {a b:Key} {u v:Value} (ra:RelV (kV a) u) (rb:RelV (kV b) v) (ht:fV a=fV b) (prog:Program) (w:World) (E:Value→Shared→Prop) (Q:Value→Shared→Prop) (h:Q (.bool (kLt a b)) s):
  wpAny (model prog w) A (richCompare .Lt u v) Q E s:=by
 cases a with
 | inl i=>
  cases b with
  | inr y=>cases ht
  | inl j=>
   obtain ⟨t,rfl⟩:=ra
   obtain ⟨t',rfl⟩:=rb
   exact (lt_int h:wpAny (model prog w) A (compareOp .Lt _ _) Q E s)
 | inr x=>
  cases b with
  | inl y=>cases ht
  | inr y=>
   obtain ⟨t,rfl⟩:=ra
   obtain ⟨t',rfl⟩:=rb
   exact (lt_str h:wpAny (model prog w) A (compareOp .Lt _ _) Q E s)
section
open PySem.SeqAt
open PySem.AutoSeq1 (wpAny_loadPart')
open PySem.MeetsSeq PySem.MeetsSeq2 PySem.MeetsSeq3
theorem wQ (l b:Addr) (items items2:Array Value) (n n2:Nat) (dd dd2:Option Addr) (sl sl2:Array (Option Value)) (ns ms:List Key) (hi:Vals (ns.map kV) items.toList) (hj:Vals (ms.map kV) items2.toList) (hty:ns.map fV=ms.map fV):
  Meets (Builtin.«tuple.__lt__» ⟨[.ref l,.ref b],[]⟩)
   (fun _ R s=>s.heap.get? l=some { cls:=.type "tuple",dict:=dd,data:=.seq items n,slots:=sl }∧s.heap.get? b=some { cls:=.type "tuple",dict:=dd2,data:=.seq items2 n2,slots:=sl2 }∧R (.ok (.ret (.bool (jC ns ms)))) s):=
 .of_wp fun prog w A R s h=>by
  obtain ⟨hp,g,d,tk,os⟩:=s; obtain ⟨hl,hb,h⟩:=h
  have f2:=AutoSeq1.sub_tuple_tuple
  have z0:ns.length=ms.length:=by have:=congrArg List.length hty; simpa using this
  have z1:items.size=ns.length:=by have:=hi.length; rw [List.length_map] at this; simpa using this.symm
  have z2:items2.size=ms.length:=by have:=hj.length; rw [List.length_map] at this; simpa using this.symm
  wp_walk using wpAny_loadPart' hl,wpAny_loadPart' hb,wpAny_forIn_list _ (fun rest b s'=>b.1=none∧s'=⟨hp,g,d,tk,os⟩∧∃(vs ws:List Value) (ns' ms':List Key),rest=vs.zip ws∧
   Vals (ns'.map kV) vs∧Vals (ms'.map kV) ws∧ns'.map fV=ms'.map fV∧R (.ok (.ret (.bool (jC ns' ms')))) ⟨hp,g,d,tk,os⟩) _
  case turn=>
   rintro ⟨y,x⟩ rest b s' ⟨hb',rfl,vs,ws,ns',ms',hz,Y0,hwi,hlen,hR⟩
   cases ns' with
   | nil=>cases Y0; rw [List.zip_nil_left] at hz; cases hz
   | cons a ns'=>
    cases ms' with
    | nil=>cases hlen
    | cons c ms'=>
     cases Y0 with
     | cons r1 Xw=>
      cases hwi with
      | cons r2 Xx=>
       rw [List.zip_cons_cons] at hz
       injection hz with hyx hrest
       injection hyx with hy hx
       subst hy hx
       have t1:fV a=fV c:=(List.cons.inj hlen).1
       have t2:=(List.cons.inj hlen).2
       unfold jC at hR
       refine wpAny_bind (Mu A.in1 ⟨hp,g,d,tk,os⟩ r1 r2 t1 prog w _ _ ?_)
       by_cases hac:a=c
       ·rw [if_pos hac] at hR
        rw [decide_eq_true hac]
        wp_walk
        exact ⟨rfl,rfl,_,_,_,_,hrest,Xw,Xx,t2,hR⟩
       ·rw [if_neg hac] at hR
        rw [decide_eq_false hac]
        have hri:=Bl A.in1 ⟨hp,g,d,tk,os⟩ r1 r2 t1 prog w
        wp_walk using hri
        exact ⟨_,rfl,by simpa using hR⟩
  case fin=>
   rintro ⟨b1,b2⟩ s' ⟨hb',rfl,vs,ws,ns',ms',hz,Y0,hwi,hlen,hR⟩
   simp only at hb'
   subst hb'
   have hv:jC ns' ms'=decide (items.size < items2.size):=by
    rw [decide_eq_false (by omega)]
    cases ns' with
    | nil=>unfold jC; rfl
    | cons a ns'=>
     cases ms' with
     | nil=>cases hlen
     | cons c ms'=>
      cases Y0 with
      | cons r1 Xw=>
       cases hwi with
       | cons r2 Xx=>
        rw [List.zip_cons_cons] at hz
        cases hz
   rw [hv] at hR
   wp_walk
   exact ⟨_,rfl,by simpa [Builtin.Tuple.tupleCompareSizes] using hR⟩
  case h=>
   exact ⟨rfl,rfl,items.toList,items2.toList,ns,ms,rfl,hi,hj,hty,h⟩
end
theorem Ep {prog:Program} {w:World} {A:Around} {E:Value→Shared→Prop} {s:Shared} {l b:Addr} {items items2:Array Value} {ns ms:List Key} {Q:Value→Shared→Prop} (hl:IsTup s.heap l items) (hb:IsTup s.heap b items2) (hi:Vals (ns.map kV) items.toList) (hj:Vals (ms.map kV) items2.toList) (hty:ns.map fV=ms.map fV)
  (hu:A.units < cLine) (h:Q (.bool (jC ns ms)) s):wpAny (model prog w) A (compareOp .Lt (.ref l) (.ref b)) Q E s:=by
 obtain ⟨⟨cls,dd,data,sl⟩,ho,hc,n,hd⟩:=id hl
 obtain ⟨⟨cls2,dd2,data2,sl2⟩,ho2,hc2,n2,hd2⟩:=id hb
 simp only at hc hd hc2 hd2
 subst hc hd hc2 hd2
 exact richCompare_meets_room (op:=.Lt) ⟨_,ho,rfl⟩ ⟨_,ho2,rfl⟩ PySem.F.slot_tuple_lt PySem.F.entry_tuple_lt (PySem.F.args_tuple_lt_2 _ _) (wQ l b items items2 n n2 dd dd2 sl sl2 ns ms hi hj hty)
  ⟨ho,ho2,show Value.bool (jC ns ms)≠Value.notImplemented∧Q (.bool (jC ns ms)) s from ⟨(fun x=>nomatch x),h⟩⟩ hu
mutual
noncomputable def RX (H:Hp):PyData→V→Prop
 | .none,v=>v=.non
 | .bool b,v=>v=.bl b
 | .int i,v=>v=.int i
 | .str x,v=>v=.str x
 | .list ds,v=>∃a vs,v=.ref a∧H a=some (.lst vs)∧Bm H ds vs
 | .tuple ds,v=>∃a vs,v=.ref a∧H a=some (.tup vs)∧Bm H ds vs
 | .dict _,_=>False
noncomputable def Bm (H:Hp):List PyData→List V→Prop
 | [],vs=>vs=[]
 | d::ds,vs=>∃v r,vs=v::r∧RX H d v∧Bm H ds r
end
mutual
theorem RX.same {H H':Hp} (s:aU H H'):∀{d:PyData} {v:V},RX H d v→RX H' d v
 | .none,_,h=>h
 | .bool _,_,h=>h
 | .int _,_,h=>h
 | .str _,_,h=>h
 | .list ds,_,h=>by
  obtain ⟨a,vs,e,q,r⟩:=h
  exact ⟨a,vs,e,s _ _ q,Bm.same s r⟩
 | .tuple ds,_,h=>by
  obtain ⟨a,vs,e,q,r⟩:=h
  exact ⟨a,vs,e,s _ _ q,Bm.same s r⟩
theorem Bm.same {H H':Hp} (s:aU H H'):∀{ds:List PyData} {vs:List V},Bm H ds vs→Bm H' ds vs
 | [],_,h=>h
 | d::ds,vs,h=>by
  obtain ⟨v,r,e,q,t⟩:=h
  exact ⟨v,r,e,RX.same s q,Bm.same s t⟩
end
mutual
theorem RX.rd {K:PySem.W.Frag} {H:Hp}:∀{d:PyData} {v:V},RX H d v→RD K H d v
 | .none,_,h=>h
 | .bool _,_,h=>h
 | .int _,_,h=>h
 | .str _,_,h=>h
 | .list ds,_,h=>by
  obtain ⟨a,vs,e,q,r⟩:=h
  exact ⟨a,vs,e,cO.of q,Bm.rd r⟩
 | .tuple ds,_,h=>by
  obtain ⟨a,vs,e,q,r⟩:=h
  exact ⟨a,vs,e,eX.of q,Bm.rd r⟩
theorem Bm.rd {K:PySem.W.Frag} {H:Hp}:∀{ds:List PyData} {vs:List V},Bm H ds vs→xV K H ds vs
 | [],_,h=>h
 | d::ds,vs,h=>by
  obtain ⟨v,r,e,q,t⟩:=h
  exact ⟨v,r,e,RX.rd q,Bm.rd t⟩
end
noncomputable def Xy:PyData→Value
 | .none=>.type "NoneType"
 | .bool _=>.type "bool"
 | .int _=>.type "int"
 | .str _=>.type "str"
 | .list _=>.type "list"
 | .tuple _=>.type "tuple"
 | .dict _=>.type "dict"
theorem RX.ty {K:PySem.W.Frag} {H:Hp} {d:PyData} {v:V} (h:RX H d v):mj K H v (Xy d):=by
 cases d with
 | none=>cases (show v=.non from h); exact .non
 | bool b=>cases (show v=.bl b from h); exact .bl b
 | int i=>cases (show v=.int i from h); exact .int i
 | str x=>cases (show v=.str x from h); exact .str x
 | list ds=>obtain ⟨a,vs,rfl,e,_⟩:=h; exact .lst e
 | tuple ds=>obtain ⟨a,vs,rfl,e,_⟩:=h; exact .tup e
 | dict ds=>exact (show False from h).elim
section
variable {X:Cx}
theorem Er (hu:X.A.units < cLine):gW X (compareOp .Lt) (fun x y H Q=>∃a b ks js,x=.ref a∧y=.ref b∧H a=some (.tup (ks.map kV))∧H b=some (.tup (js.map kV))∧ks.map fV=js.map fV∧Q (.bl (jC ks js)) H):=by
 intro pins s σ H x y v u Q I rx ry h
 obtain ⟨a,b,ks,js,rfl,rfl,ha,hb,ht,q⟩:=h
 cases rx
 cases ry
 obtain ⟨_,its,r1,p1⟩:=(show bW X.prog X.w H s.heap a (.tup (ks.map kV)) from I.hok a _ ha)
 obtain ⟨_,its2,r2,p2⟩:=(show bW X.prog X.w H s.heap b (.tup (js.map kV)) from I.hok b _ hb)
 exact Ep p1 p2 (by simpa using r1) (by simpa using r2) ht hu (bC I q rfl)
theorem uG (hu:X.A.units < cLine):gW X (compareOp .Lt) (fun x y H Q=>(∃a b,x=kV a∧y=kV b∧fV a=fV b∧Q (.bl (kLt a b)) H)∨∃a b ks js,x=.ref a∧y=.ref b∧H a=some (.tup (ks.map kV))∧H b=some (.tup (js.map kV))∧ks.map fV=js.map fV∧Q (.bl (jC ks js)) H):=by
 refine gW.or ?_ (Er hu)
 intro pins s σ H x y v u Q I rx ry h
 obtain ⟨a,b,rfl,rfl,ht,q⟩:=h
 exact Bl X.A s rx ry ht _ _ _ _ (bC I q rfl)
end
end L2
namespace L2
open PySem PySem.Spec PyProof.Rows PySem.W
structure Ord (lt:Nat→Nat→Bool):Prop where
 Xz:∀a b,lt a b=true→lt b a=false
 trans:∀a b c,lt b a=false→lt c b=false→lt c a=false
section
variable {N:Nat} {lt:Nat→Nat→Bool} (O:Ord lt)
theorem KP.size {p:Array Nat} (h:KP N p):p.size=N:=by
 have:=h.length_eq
 rw [List.length_range] at this
 simpa using this
include O
end
end L2
namespace L2
open PySem PySem.Spec PyProof.Rows PySem.W
theorem QC {a b:Key} (h:kLt a b=true):kLt b a=false:=by
 cases a with
 | inl i=>
  cases b with
  | inr y=>cases h
  | inl j=>have:=of_decide_eq_true h; exact decide_eq_false (by omega)
 | inr x=>
  cases b with
  | inl y=>cases h
  | inr y=>exact KeyOrd.klt_asymm (O:=strKind.toKeyOrd) (a:=x.cps.toList) (b:=y.cps.toList) h
theorem Vi {a b c:Key} (t1:fV a=fV b) (t2:fV b=fV c) (h:kLt a c=true):kLt a b=true∨kLt b c=true:=by
 cases a with
 | inl i=>
  cases b with
  | inr y=>cases t1
  | inl j=>
   cases c with
   | inr y=>cases t2
   | inl k=>
    have h1:=of_decide_eq_true h
    by_cases h2:i < j
    ·exact .inl (decide_eq_true h2)
    ·exact .inr (decide_eq_true (by omega))
 | inr x=>
  cases b with
  | inl y=>cases t1
  | inr y=>
   cases c with
   | inl k=>cases t2
   | inr z=>exact strKind.negTrans x.cps.toList y.cps.toList z.cps.toList h
theorem str_of_list {x y:Str} (h:x.cps.toList=y.cps.toList):x=y:=by
 cases x
 cases y
 simp at h
 simp [h]
theorem Vj {a b:Key} (t:fV a=fV b) (h1:kLt a b=false) (h2:kLt b a=false):a=b:=by
 cases a with
 | inl i=>
  cases b with
  | inr y=>cases t
  | inl j=>
   have g1:=of_decide_eq_false h1
   have g2:=of_decide_eq_false h2
   have:i=j:=by omega
   rw [this]
 | inr x=>
  cases b with
  | inl y=>cases t
  | inr y=>
   have:=strKind.total x.cps.toList y.cps.toList h1 h2
   rw [str_of_list this]
noncomputable def sY (rows:List Row) (i:Nat):List Key:=(rows.getD i (rows.headD (0,[]))).2
noncomputable def sZ (rows:List Row) (i j:Nat):Bool:=jC (sY rows i) (sY rows j)
noncomputable def runK {α:Type} (lt:Nat→Nat→Bool):KasT α→α
 | .ret a=>a
 | .ask i j k=>runK lt (k (lt i j))
theorem bQ.run {α:Type} {N:Nat} {lt:Nat→Nat→Bool} {R:α→Prop}:∀{t:KasT α},bQ N lt t R→bQ N lt t (fun a=>R a∧a=runK lt t)∧R (runK lt t)
 | .ret a,h=>⟨⟨h,rfl⟩,h⟩
 | .ask i j k,h=>let r:=bQ.run h.2.2; ⟨⟨h.1,h.2.1,r.1⟩,r.2⟩
noncomputable def wR (ks:List (List Key)):List Nat:=if ks.length < 2 then List.range ks.length else (runK (fun i j=>jC (ks.getD i (ks.headD [])) (ks.getD j (ks.headD []))) (kas_sort ks.length)).toList
noncomputable def wU (ks:List (List Key)):List (List Key):=(wR ks).map fun i=>ks.getD i (ks.headD [])
theorem JQ (ks:List (List Key)):(wR ks).Perm (List.range ks.length):=by
 unfold wR
 split
 ·exact List.Perm.refl _
 ·exact (bQ.run (G6 (lt:=fun i j=>jC (ks.getD i (ks.headD [])) (ks.getD j (ks.headD []))) (by omega))).2
theorem JR (ks:List (List Key)):(wU ks).Perm ks:=by
 have:=(JQ ks).map fun i=>ks.getD i (ks.headD [])
 refine this.trans (List.Perm.of_eq ?_)
 refine List.ext_getElem (by simp) fun i h1 h2=>?_
 simp [h2]
theorem Bo (rows:List Row) (i:Nat):sY rows i=(rows.map (·.2)).getD i ((rows.map (·.2)).headD []):=by
 unfold sY
 cases h:rows[i]? with
 | none=>cases rows <;> simp_all [List.getD]
 | some r=>simp [List.getD,h]
theorem xZ {rows:List Row} {n:Nat} (hn:n=rows.length) (h2:2≤n):bQ n (sZ rows) (kas_sort n) fun p=>KP n p∧p.toList=wR (rows.map (·.2)):=by
 subst hn
 have e:sZ rows=fun i j=>jC ((rows.map (·.2)).getD i ((rows.map (·.2)).headD [])) ((rows.map (·.2)).getD j ((rows.map (·.2)).headD [])):=by
  funext i j
  rw [sZ,Bo,Bo]
 refine (bQ.run (G6 (lt:=sZ rows) (N:=rows.length) (by omega))).1.mono fun p hp=>⟨hp.1,?_⟩
 unfold wR
 rw [if_neg (by rw [List.length_map]; omega),hp.2,e,List.length_map]
theorem uH {rows:List Row} {n:Nat} (hn:n=rows.length) (h:n < 2):List.range n=wR (rows.map (·.2)):=by
 subst hn
 unfold wR
 rw [if_pos (by rw [List.length_map]; exact h),List.length_map]
theorem Hf {rows:List Row} {p:List Nat} (h:p.Perm (List.range rows.length)) (hr:p=wR (rows.map (·.2))):(p.map fun i=>rows.getD i (0,[])).map (·.2)=wU (rows.map (·.2)):=by
 unfold wU
 rw [←hr,List.map_map]
 refine List.map_congr_left fun i hi=>?_
 have hlt:=List.mem_range.mp (h.mem_iff.mp hi)
 simp [List.getD,hlt]
section
variable {X:Cx}
theorem Bp {prog:Program} {w:World} {A:Around} {s':Shared} {rows:List Row} {sh:List Bool} (ha:∀r∈rows,TupAt s'.heap r∧r.2.map fV=sh) {i j:Nat} (hi:i < rows.length) (hj:j < rows.length) (C:Bool→Shared→Prop) (q:C (sZ rows i j) s'):
  kas_ask prog w A (tuples' true) (rows.map fun r=>Value.ref r.1) i j C s':=by
 refine QB ha hi hj C ?_
 have e1:sY rows i=rowAt rows i:=by simp [sY,rowAt,List.getD,hi]
 have e2:sY rows j=rowAt rows j:=by simp [sY,rowAt,List.getD,hj]
 unfold sZ at q
 rw [e1,e2] at q
 exact q
theorem qb:cD X (.builtin "sorted") (fun xs H Q=>∃(p:Addr) (rows:List Row) (b:Bool) (sh:List Bool),xs=[.ref p]∧cO X.K H p (rows.map fun r=>V.ref r.1)∧rows.length < 64∧(∀r∈rows,H r.1=some (.tup (r.2.map kV))∧r.2.map fV=b::sh)∧
  ∀(l:Addr) (rows':List Row),H l=none→rows'.Perm rows→rows'.map (·.2)=wU (rows.map (·.2))→Q (.ref l) (upd H l (.lst (rows'.map fun r=>V.ref r.1)))):=by
 intro pins s σ H xs us Q I r h
 obtain ⟨p,rows,b,sh,rfl,hp,h64,ha,q⟩:=h
 obtain ⟨u,rfl,ru⟩:=vals1 r
 cases ru
 obtain ⟨its,rv,pl,_⟩:=I.list hp
 have e0:=G9 rv
 subst e0
 have tu:∀r∈rows,TupAt s.heap r∧r.2.map fV=b::sh:=fun r hr=>by
  obtain ⟨_,its,v,t⟩:=(show bW X.prog X.w H s.heap r.1 (.tup (r.2.map kV)) from I.hok r.1 _ (ha r hr).1)
  exact ⟨⟨its,v,t⟩,(ha r hr).2⟩
 refine sX (κ:=tuples' true) (lt:=sZ rows) (vs:=rows.map fun r=>Value.ref r.1) (Rl:=fun p=>p=wR (rows.map (·.2))) (by simpa using h64) (fun h2=>xZ (by rw [List.length_map]) h2) (fun h2=>uH (by rw [List.length_map]) h2) (fun R hR=>?_) (fun h2 s' k Q' q'=>xX (fun r hr=>⟨(tu r hr).1.keep k,(tu r hr).2⟩) (by rw [List.length_map] at h2; omega) Q' q')
  (fun h2 s' k i j hi hj C q'=>Bp (sh:=b::sh) (fun r hr=>⟨(tu r hr).1.keep k,(tu r hr).2⟩) (by simpa using hi) (by simpa using hj) C q') fun p D h' c tk hp' hrl hD k e=>?_
 ·refine collect_list pl.isList (hR _ _ s.toks ?_ (fun b o e=>?_) rfl)
  ·rw [Heap.size_update,size_push']
   omega
  ·have hlt:b≠s.heap.objs.size:=Nat.ne_of_lt (Heap.lt_size e)
   rw [Heap.get?_update_ne _ _ _ _ hlt]
   exact Heap.get?_push_of_some _ e
 ·rw [List.length_map] at hp'
  rw [xY hp'] at e
  refine ⟨.ref D,_,I.laid (o:=.lst ((p.map fun i=>rows.getD i (0,[])).map fun r=>V.ref r.1)) k hD ⟨?_,_,c,rA _,by simpa [seqObj] using e⟩,rfl,q D _ (I.hok.fresh hD) (rm hp') (Hf hp' hrl)⟩
  rw [List.length_map,List.length_map,hp'.length_eq,List.length_range,sizeLine_eq]
  omega
theorem lG (hc:X.calm=true):cD X (.builtin "sorted") (fun xs H Q=>∃(d:Addr) (kvs:List (List Key×V)) (b:Bool) (sh:List Bool),xs=[.ref d]∧H d=some (.dT kvs)∧kvs.length < 64∧(∀kv∈kvs,kv.1.map fV=b::sh)∧
  ∀(l:Addr) (rows:List Row),H l=none→(rows.map (·.2)).Perm (kvs.map (·.1))→rows.map (·.2)=wU (kvs.map (·.1))→(∀r∈rows,H r.1=some (.tup (r.2.map kV)))→Q (.ref l) (upd H l (.lst (rows.map fun r=>V.ref r.1)))):=by
 intro pins s σ H xs us Q I r h
 obtain ⟨d,kvs,b,sh,rfl,hd,h64,ha,q⟩:=h
 obtain ⟨u,rfl,ru⟩:=vals1 r
 cases ru
 obtain ⟨z,lo,ys,rel,o,es,ep,g1,g2,g3,g4,g5,g6⟩:=SX I.hok hd
 have raw:Bh s.heap d es ep:=⟨o,g1,g2,g3⟩
 obtain ⟨rows,r1,r2,r3⟩:∃rows:List Row,rows.map (·.2)=kvs.map (·.1)∧(∀r∈rows,H r.1=some (.tup (r.2.map kV)))∧es.toList.map (·.key)=rows.map fun r=>Value.ref r.1:=by
  clear g5 g6 h64 ha q z hd
  rw [g4]
  clear g4 raw g3
  induction rel with
  | nil=>exact ⟨[],rfl,by simp,rfl⟩
  | @cons p q ps qs h t ih=>
   obtain ⟨rows,a1,a2,a3⟩:=ih
   refine ⟨(q.2.1,p.1)::rows,by simp [a1],fun r hr=>?_,?_⟩
   ·rcases List.mem_cons.mp hr with rfl | hr
    ·exact h.2.1
    ·exact a2 r hr
   ·rw [List.map_cons,List.map_cons,a3]
    rfl
 have hlen:rows.length=kvs.length:=by
  have:=congrArg List.length r1
  simpa using this
 have hes:es.size=rows.length:=by
  have:=congrArg List.length r3
  simpa using this
 have tu:∀r∈rows,TupAt s.heap r∧r.2.map fV=b::sh:=fun r hr=>by
  obtain ⟨_,its,v,t⟩:=(show bW X.prog X.w H s.heap r.1 (.tup (r.2.map kV)) from I.hok r.1 _ (r2 r hr))
  have:r.2∈kvs.map (·.1):=by rw [←r1]; exact List.mem_map.mpr ⟨r,hr,rfl⟩
  obtain ⟨kv,hk,e⟩:=List.mem_map.mp this
  exact ⟨⟨its,v,t⟩,by rw [←e]; exact ha kv hk⟩
 refine sX (κ:=tuples' true) (lt:=sZ rows) (vs:=rows.map fun r=>Value.ref r.1) (Rl:=fun p=>p=wR (rows.map (·.2))) (by rw [List.length_map]; omega) (fun h2=>xZ (by rw [List.length_map]) h2) (fun h2=>uH (by rw [List.length_map]) h2) (fun R hR=>?_) (fun h2 s' k Q' q'=>xX (fun r hr=>⟨(tu r hr).1.keep k,(tu r hr).2⟩) (by rw [List.length_map] at h2; omega) Q' q')
  (fun h2 s' k i j hi hj C q'=>Bp (sh:=b::sh) (fun r hr=>⟨(tu r hr).1.keep k,(tu r hr).2⟩) (by simpa using hi) (by simpa using hj) C q') fun p D h' c tk hp' hrl hD k e=>?_
 ·refine Bj (Qz (es:=es) (ep:=ep) lo) (I.ok.hd hc) raw (by rw [sizeLine_eq]; omega) fun h' tk acc hsz kk hacc=>hR _ h' tk hsz kk ?_
  refine List.ext_getElem? fun i=>?_
  by_cases hi:i < es.size
  ·have e1:acc.size=es.size:=hacc.1
   have:=hacc.2 i (acc[i]'(by omega)) (by simp [e1,hi])
   rw [Array.getElem?_toList,Array.getElem?_eq_getElem (by omega)]
   rw [←this,←r3,List.getElem?_map,Array.getElem?_toList]
  ·have e1:acc.size=es.size:=hacc.1
   rw [List.getElem?_eq_none (by simp; omega),List.getElem?_eq_none (by simp; omega)]
 ·rw [List.length_map] at hp'
  rw [xY hp'] at e
  refine ⟨.ref D,_,I.laid (o:=.lst ((p.map fun i=>rows.getD i (0,[])).map fun r=>V.ref r.1)) k hD ⟨?_,_,c,rA _,by simpa [seqObj] using e⟩,rfl,q D _ (I.hok.fresh hD) (((rm hp').map _).trans (by rw [r1])) ((Hf hp' hrl).trans (by rw [r1])) fun r hr=>r2 r ((rm hp').mem_iff.mp hr)⟩
  rw [List.length_map,List.length_map,hp'.length_eq,List.length_range,sizeLine_eq]
  omega
end
end L2
namespace L2
open PySem PySem.Spec PyProof.Rows PySem.W
noncomputable abbrev uI:=List (Option PyData)
noncomputable def mF (H:Hp) (Γ:uI) (σ:St):Prop:=σ.length=Γ.length∧∀(i:Nat) (d:PyData),Γ[i]?=some (some d)→∃v,σ[i]?=some (some v)∧RX H d v
theorem mF.same {H H':Hp} {Γ:uI} {σ:St} (h:mF H Γ σ) (s:aU H H'):mF H' Γ σ:=⟨h.1,fun i d e=>let ⟨v,a,b⟩:=h.2 i d e; ⟨v,a,b.same s⟩⟩
theorem mF.set {H:Hp} {Γ:uI} {σ:St} (h:mF H Γ σ) {i:Nat} {d:PyData} {v:V} (hv:RX H d v):mF H (Γ.set i (some d)) (σ.set i (some v)):=by
 refine ⟨by rw [List.length_set,List.length_set]; exact h.1,fun j e he=>?_⟩
 by_cases hj:i=j
 ·subst hj
  rw [List.getElem?_set] at he
  simp only [if_true] at he
  split at he
  ·rename_i hl
   cases he
   refine ⟨v,?_,hv⟩
   rw [List.getElem?_set]
   simp only [if_true]
   rw [if_pos (by rw [h.1]; exact hl)]
  ·cases he
 ·rw [List.getElem?_set_ne hj] at he
  rw [List.getElem?_set_ne hj]
  exact h.2 j e he
noncomputable def er (Z:List Addr) (H:Hp):Hp:=fun b=>if b∈Z then none else H b
theorem bD {Z:List Addr} {H:Hp} {b:Addr} {o:HO} (h:er Z H b=some o):H b=some o:=by
 unfold er at h
 split at h
 ·cases h
 ·exact h
theorem tB (Z:List Addr) (H:Hp):aU (er Z H) H:=fun b o h=>bD h
theorem nH {Z:List Addr} {H H':Hp} (s:aU H H'):aU (er Z H) (er Z H'):=fun b o h=>by
 unfold er at h ⊢
 split at h
 ·cases h
 ·rename_i n
  rw [if_neg n]
  exact s _ _ h
theorem uJ (H:Hp):er [] H=H:=by
 funext b
 simp [er]
noncomputable def zq (t:TE) (Γ:uI) (d:PyData):Prop:=∀Z σ H (Q:VK),(∀b,b∈Z→H b≠none)→mF (er Z H) Γ σ→(∀v H',aU H H'→RX (er Z H') d v→Q v H')→t σ H Q
noncomputable def Hg (t:TA) (Γ:uI) (ds:List PyData):Prop:=∀Z σ H (Q:List V→Hp→Prop),(∀b,b∈Z→H b≠none)→mF (er Z H) Γ σ→(∀vs H',aU H H'→Bm (er Z H') ds vs→Q vs H')→t σ H Q
section
variable {Γ:uI} {K:PySem.W.Frag}
theorem zq.run {t:TE} {d:PyData} (h:zq t Γ d) {σ:St} {H:Hp} {Q:VK} (e:mF H Γ σ) (q:∀v H',aU H H'→RX H' d v→Q v H'):t σ H Q:=
 h [] σ H Q (fun _ m=>by cases m) (by rw [uJ]; exact e) fun v H' s r=>q v H' s (by rw [uJ] at r; exact r)
end
end L2
namespace HT
open PySem PySem.Spec PyProof.Rows
section
variable {prog:Program} {w:World} {A:Around} {E:Value→Shared→Prop} {s:Shared}
theorem oh {t sl:Addr} {items:Array Value} {vl vu:Value} {lo hi:Option Int} {Q:Value→Shared→Prop} (ht:IsTup s.heap t items) (hs:s.heap.IsSliceOf sl vl vu .none) (pl:IsPart vl lo) (pu:IsPart vu hi)
  (hw:eU items.size 0 lo=0∧eU items.size items.size hi=items.size) (h:Q (.ref t) s):wpAny (model prog w) A (getItem (.ref t) (.ref sl)) Q E s:=by
 obtain ⟨os,hos,hcs,hds⟩:=id hs
 have hTs:s.TypeIs (.ref sl) "slice":=⟨os,hos,hcs⟩
 unfold getItem
 try with_reducible refine wpAny_holding ?_
 first | refine wpAny_bind (wpAny_pure ?_) | skip
 refine wpAny_bind (wpAny_sequenceKey ht.typeIs (by decide) ?_)
 refine wpAny_bind (wpAny_callSpecial?_slot (name:=Str.ofString "__getitem__") ht.typeIs PyProof.Rows.slot_tuple_getitem
  (wpAny_call_entry PyProof.Rows.slot_tuple_getitem ht.typeIs entry_tuple_getitem ?_ (args_tuple_getitem _ _)))
 show wpAny _ _ (Builtin.Tuple.tupleItemsOf (.ref t) >>= _) _ _ s
 refine wpAny_bind (tupleItemsOf_ ht ?_)
 refine wpAny_bind (wpAny_typeOf hTs ?_)
 rw [if_pos (by decide)]
 refine wpAny_bind (jQ hs pl pu ?_)
 have hyes:((((eU items.size 0 lo:Nat):Int)==0&&(1:Int)==1&&(eU items.size items.size hi - eU items.size 0 lo)==items.size)=true):=by
  rw [hw.1,hw.2]
  simp
 show wpAny _ _ (if (((eU items.size 0 lo:Nat):Int)==0&&(1:Int)==1&&(eU items.size items.size hi - eU items.size 0 lo)==items.size)=true then _ else _) _ _ s
 rw [if_pos hyes]
 unfold Builtin.Tuple.tupleIsExact
 refine wpAny_bind (wpAny_bind (wpAny_typeOf ht.typeIs (wpAny_pure ?_)))
 rw [if_pos (by decide)]
 refine wpAny_bind (wpAny_rule ?_)
 exact wpAny_pure ⟨_,rfl,wpAny_pure h⟩
end
end HT
namespace L2
open PySem PySem.Spec PyProof.Rows PySem.W
section
variable {X:Cx}
noncomputable def aaa (K:PySem.W.Frag):V→Option Int→Option Int→Hp→VK→Prop:=fun x lo hi H Q=>∃a xs,x=.ref a∧eX K H a xs∧(uA xs lo hi=xs→Q (.ref a) H)∧∀p,H p=none→Q (.ref p) (upd H p (.tup (uA xs lo hi)))
theorem QD:Ql X (aaa X.K):=by
 intro pins s σ H x v vl vu lo hi sl Q I rx hs pl pu h
 obtain ⟨a,xs,rfl,hx,q1,q2⟩:=h
 by_cases hw:HT.eU xs.length 0 lo=0∧HT.eU xs.length xs.length hi=xs.length
 ·cases rx
  obtain ⟨its,r,ht,hz⟩:=I.tuple hx
  have hlen:its.toArray.size=xs.length:=by rw [List.size_toArray]; exact r.length.symm
  refine ⟨"tuple",_,PyProof.Rows.slot_tuple_getitem.lookup,ht.typeIs,?_⟩
  refine HT.oh ht hs pl pu (by rw [hlen]; exact hw) ?_
  refine ⟨.ref a,H,I,rfl,q1 ?_⟩
  unfold uA
  rw [hw.1,hw.2]
  simp
 ·exact UW pins s σ H _ v vl vu lo hi sl Q I rx hs pl pu ⟨a,xs,rfl,hx,hw,q2⟩
end
end L2
namespace HT
open PySem PySem.Spec PyProof.Rows
open Sem (wp)
open Builtin
end HT
namespace L2
open PySem PySem.Spec PyProof.Rows PySem.W
section
variable {X:Cx}
end
end L2
namespace L2
open PySem PySem.Spec PyProof.Rows PySem.W
section
variable {Γ:uI} {K:PySem.W.Frag}
end
end L2
namespace L2
open PySem PySem.Spec PyProof.Rows PySem.W
section
variable {Γ:uI} {K:PySem.W.Frag}
end
end L2
namespace L2
open PySem PySem.Spec PyProof.Rows PySem.W
section
variable {Γ:uI} {K:PySem.W.Frag}
end
end L2
namespace L2
open PySem PySem.Spec PyProof.Rows PySem.W
section
variable {X:Cx}
theorem Es (hu:X.A.units + 64 < cLine):gW X (compareOp .NotEq) (fun x y H Q=>∃d e,RX H d x∧RX H e y∧PySem.SeqAt.shaped d=true∧PySem.SeqAt.shaped e=true∧Q (.bl (!PyData.eqv d e)) H):=by
 intro pins s σ H x y v u Q I rx ry h
 obtain ⟨d,e,hd,he,h1,h2,q⟩:=h
 obtain ⟨as,ra⟩:=RD.reads I (hd.rd (K:=X.K)) rx
 obtain ⟨bs,rb⟩:=RD.reads I (he.rd (K:=X.K)) ry
 exact ne_dataH ra rb h1 h2 hu ⟨.bl _,H,I,rfl,q⟩
theorem Vk {x:Str} {k:Nat} {sp:Sp} {p pos:Pos} (F:gq X.prog X.w X.K X.mg X.base x k [] sp) (hr:fH k X.A) (hg:Gl X x) (hdb:(x==("__debug__":Str))=false:=by decide):PE X (.Call (.Name x p) [] [] pos) (Ar sp [] E0 UG):=by
 obtain ⟨f,fd,h1,h2,h3,h4⟩:=F.ex
 exact Lq h4 hr hg h1 h2 h3 .nil S7 hdb
end
section
variable {Γ:uI} {K:PySem.W.Frag}
noncomputable def Vm (t:TE) (Γ:uI) (d:PyData):Prop:=∀σ H (Q:VK),mF H Γ σ→(∀v H',aU H H'→RX H' d v→Q v H')→t σ H Q
theorem zq.r {t:TE} {d:PyData} (h:zq t Γ d):Vm t Γ d:=fun σ H Q e q=>h.run e q
theorem Hg.run {t:TA} {ds:List PyData} (h:Hg t Γ ds) {σ:St} {H:Hp} {Q:List V→Hp→Prop} (e:mF H Γ σ) (q:∀vs H',aU H H'→Bm H' ds vs→Q vs H'):t σ H Q:=
 h [] σ H Q (fun _ m=>by cases m) (by rw [uJ]; exact e) fun v H' s r=>q v H' s (by rw [uJ] at r; exact r)
end
end L2
namespace L2
open PySem PySem.Spec PyProof.Rows PySem.W
theorem ud {xs:Array Nat} (h:xs.toList.Pairwise (· < ·)) {i k d:Nat} (hik:i < k) (hk:k < xs.size):xs.getD i d < xs.getD k d:=by
 have h1:=List.pairwise_iff_getElem.mp h i k (by simpa using Nat.lt_trans hik hk) (by simpa using hk) hik
 have hi:i < xs.size:=Nat.lt_trans hik hk
 rw [Array.getD_eq_getD_getElem?,Array.getD_eq_getD_getElem?,Array.getElem?_eq_getElem hk,Array.getElem?_eq_getElem hi]
 simpa using h1
theorem uK {xs:Array Nat} {j:Nat} (h:xs.toList.Pairwise (· < ·)):∀f lo hi,lo≤hi→hi≤xs.size→hi - lo≤f→(∀i,i < lo→xs.getD i j < j)→(∀i,hi≤i→i < xs.size→j≤xs.getD i j)→
  SetTable.below.go xs j f lo hi≤xs.size∧(∀i,i < SetTable.below.go xs j f lo hi→xs.getD i j < j)∧∀i,SetTable.below.go xs j f lo hi≤i→i < xs.size→j≤xs.getD i j
 | 0,lo,hi,h1,h2,h3,h4,h5=>by
  unfold SetTable.below.go
  exact ⟨by omega,h4,fun i a b=>h5 i (by omega) b⟩
 | f + 1,lo,hi,h1,h2,h3,h4,h5=>by
  unfold SetTable.below.go
  by_cases hlt:lo < hi
  ·rw [if_pos hlt]
   dsimp only
   by_cases hm:xs.getD ((lo + hi) / 2) j < j
   ·rw [if_pos hm]
    refine uK h f _ _ (by omega) h2 (by omega) (fun i hi'=>?_) h5
    by_cases e:i=(lo + hi) / 2
    ·rw [e]; exact hm
    ·exact Nat.lt_trans (ud h (by omega) (by omega)) hm
   ·rw [if_neg hm]
    refine uK h f _ _ (by omega) (by omega) (by omega) h4 (fun i hi' hs=>?_)
    by_cases e:i=(lo + hi) / 2
    ·rw [e]; omega
    ·have:=ud (d:=j) h (show (lo + hi) / 2 < i by omega) hs
     omega
  ·rw [if_neg hlt]
   exact ⟨by omega,h4,fun i a b=>h5 i (by omega) b⟩
theorem rB {xs:Array Nat} (j:Nat) (h:xs.toList.Pairwise (· < ·)):SetTable.below xs j≤xs.size∧(∀i,i < SetTable.below xs j→xs.getD i j < j)∧∀i,SetTable.below xs j≤i→i < xs.size→j≤xs.getD i j:=
 uK h xs.size 0 xs.size (Nat.zero_le _) (Nat.le_refl _) (by omega) (fun i hi=>by omega) (fun i a b=>by omega)
theorem Hh {xs:Array Nat} (h:xs.toList.Pairwise (· < ·)):SetTable.below xs 0=0:=by
 obtain ⟨_,b,_⟩:=rB 0 h
 cases e:SetTable.below xs 0 with
 | zero=>rfl
 | succ n=>have:=b 0 (by omega); omega
theorem uL {xs:Array Nat} (h:xs.toList.Pairwise (· < ·)) {i:Nat} (hi:i < xs.size):SetTable.below xs (xs[i] + 1)=i + 1:=by
 obtain ⟨a,b,c⟩:=rB (xs[i] + 1) h
 have e:∀k d,(hk:k < xs.size)→xs.getD k d=xs[k]:=fun k d hk=>by rw [Array.getD_eq_getD_getElem?,Array.getElem?_eq_getElem hk]; rfl
 have mono:∀p q,(hp:p < xs.size)→(hq:q < xs.size)→p < q→xs[p] < xs[q]:=fun p q hp hq pq=>by
  have:=ud (d:=0) h pq hq
  rwa [e p 0 hp,e q 0 hq] at this
 by_cases h1:SetTable.below xs (xs[i] + 1)≤i
 ·have:=c i h1 hi
  rw [e i _ hi] at this
  omega
 ·by_cases h2:SetTable.below xs (xs[i] + 1)=i + 1
  ·exact h2
  ·have hs:i + 1 < xs.size:=by omega
   have:=b (i + 1) (by omega)
   rw [e _ _ hs] at this
   have:=mono i (i + 1) hi hs (by omega)
   omega
structure iG (b:Bool) (t:SetTable):Prop where
 led:t.led=b
 dum:t.dummies=#[]
 ris:t.place.toList.Pairwise (· < ·)
theorem iG.standIn {b:Bool} {t:SetTable} (h:iG b t) (n:Nat):iG b (t.standIn n):=⟨h.led,rfl,by simpa [SetTable.standIn] using List.pairwise_lt_range⟩
theorem iG.orStandIn {b:Bool} {t:SetTable} (h:iG b t) (n:Nat):iG b (t.orStandIn n):=by
 unfold SetTable.orStandIn
 split
 ·exact h
 ·exact h.standIn n
theorem has_none (j:Nat):SetTable.has #[] j=false:=rfl
theorem uM {t:SetTable} (hd:t.dummies=#[]) (f:Nat→Int) (h:Int):∀fuel (p:SetTable.Probe) j d,p.dummy=none→SetTable.probe.go t f h fuel p=some (.empty j d)→d=none∧t.slot j=.empty
 | 0,p,j,d,_,e=>by simp [SetTable.probe.go] at e
 | fuel + 1,p,j,d,hp,e=>by
  unfold SetTable.probe.go at e
  have adv:(t.advance p).dummy=none:=by
   unfold SetTable.advance
   split <;> exact hp
  cases hs:t.slot p.j with
  | empty=>
   rw [hs] at e
   simp only [Option.some.injEq,SetTable.Met.empty.injEq] at e
   exact ⟨by rw [←e.2]; exact hp,by rw [←e.1]; exact hs⟩
  | dummy=>
   unfold SetTable.slot at hs
   rw [hd] at hs
   simp only [has_none] at hs
   split at hs
   ·cases hs
   ·simp at hs
  | live i=>
   rw [hs] at e
   simp only at e
   split at e
   ·cases e
   ·exact uM hd f h fuel _ j d adv e
theorem Et {xs:Array Nat} {j:Nat} (h:xs.toList.Pairwise (· < ·)) (hn:xs[SetTable.below xs j]?≠some j):(SetTable.insertAt xs (SetTable.below xs j) j).toList.Pairwise (· < ·):=by
 obtain ⟨a,b,c⟩:=rB j h
 rw [SetTable.toList_insertAt]
 have h':=h
 rw [←List.take_append_drop (SetTable.below xs j) xs.toList,List.pairwise_append] at h'
 obtain ⟨h1,h2,h3⟩:=h'
 have e:∀k d,(hk:k < xs.size)→xs.getD k d=xs.toList[k]'(by simpa using hk):=fun k d hk=>by rw [Array.getD_eq_getD_getElem?,Array.getElem?_eq_getElem hk]; simp
 have lo:∀x,x∈xs.toList.take (SetTable.below xs j)→x < j:=fun x hx=>by
  obtain ⟨i,hi,rfl⟩:=List.getElem_of_mem hx
  have hi':i < SetTable.below xs j:=by simp at hi; omega
  have:=b i hi'
  rw [e i j (by omega)] at this
  rw [List.getElem_take]
  exact this
 have hi:∀x,x∈xs.toList.drop (SetTable.below xs j)→j < x:=fun x hx=>by
  obtain ⟨i,hi,rfl⟩:=List.getElem_of_mem hx
  have hs:SetTable.below xs j + i < xs.size:=by simp at hi; omega
  have h0:=c (SetTable.below xs j) (Nat.le_refl _) (by omega)
  have ne:xs.getD (SetTable.below xs j) j≠j:=fun z=>hn (by
   have hb:SetTable.below xs j < xs.size:=by omega
   rw [Array.getD_eq_getD_getElem?,Array.getElem?_eq_getElem hb] at z
   rw [Array.getElem?_eq_getElem hb]
   simpa using z)
  rw [List.getElem_drop,←e _ j hs]
  by_cases z:i=0
  ·subst z
   simp only [Nat.add_zero]
   omega
  ·have:=ud (d:=j) h (show SetTable.below xs j < SetTable.below xs j + i by omega) hs
   omega
 rw [List.pairwise_append]
 refine ⟨h1,List.pairwise_cons.mpr ⟨hi,h2⟩,fun x hx y hy=>?_⟩
 rcases List.mem_cons.mp hy with rfl | hy
 ·exact lo x hx
 ·exact h3 x hx y hy
theorem iG.layNew {b:Bool} {t:SetTable} (h:iG b t) (es:Array (Int×Value)) (hs:Int) (x:Value):iG b (layNew t es hs x).2.1:=by
 unfold PySem.layNew
 cases hf:t.freeSlot hs with
 | none=>exact h.standIn _
 | some q=>
  obtain ⟨slot,wd⟩:=q
  have free:t.slot slot=.empty:=by
   unfold SetTable.freeSlot at hf
   split at hf
   ·rename_i j d hp
    obtain ⟨rfl,hj⟩:=uM h.dum _ _ _ _ _ _ rfl hp
    simp only [Option.some.injEq,Prod.mk.injEq] at hf
    rw [←hf.1]
    exact hj
   ·cases hf
  have hn:t.place[SetTable.below t.place slot]?≠some slot:=fun z=>by
   unfold SetTable.slot at free
   simp [z] at free
  show iG b ((t.put slot).1.orStandIn _)
  refine iG.orStandIn (t:=(t.put slot).1) ⟨h.led,?_,Et h.ris hn⟩ _
  show (if SetTable.has t.dummies slot then _ else t.dummies)=#[]
  rw [h.dum]
  rfl
theorem iG.relayAll {b:Bool} {t:SetTable} (h:iG b t) (es:Array (Int×Value)) (n:Nat):iG b (relayAll t es n).2.1:=by
 unfold PySem.relayAll
 split
 ·rename_i t' order hr
  dsimp only
  split
  ·unfold SetTable.relaid SetTable.laid at hr
   cases ho:SetTable.layClean (SetTable.sizeAbove n - 1) (es.map (·.1)) with
   | none=>simp [ho] at hr
   | some owner=>
    simp only [ho,Option.bind_eq_bind,Option.bind_some,Option.pure_def,Option.some.injEq,Prod.mk.injEq] at hr
    rw [←hr.1]
    refine ⟨h.led,rfl,?_⟩
    simp only [List.map_filterMap]
    refine List.Pairwise.filterMap _ (fun x y hxy=>?_) List.pairwise_lt_range
    intro u hu v hv
    simp only [Option.map_eq_some_iff] at hu hv
    obtain ⟨p,⟨_,_,rfl⟩,rfl⟩:=hu
    obtain ⟨q,⟨_,_,rfl⟩,rfl⟩:=hv
    exact hxy
  ·exact h.standIn _
 ·exact h.standIn _
theorem iG.plain {b:Bool} {t:SetTable} (h:iG b t) (v:Bool):iG b { t with plain:=v }:=⟨h.led,h.dum,h.ris⟩
theorem iG.fresh (b:Bool):iG b (.fresh 0 0 b):=⟨rfl,rfl,.nil⟩
end L2
namespace L2
open PySem PySem.Spec PySem.W
section
variable {prog:Program} {w:World} {T:Type} [DecidableEq T] (knd:PySem.KeyKind prog w T)
noncomputable def bt (w:World):Bool:=!(w.params.followText "set-order")
inductive wV:List (Int×Value)→List T→Prop
 | nil:wV [] []
 | cons {e:Int×Value} {k:T} {es:List (Int×Value)} {ks:List T}:(knd.is k e.2=true∧e.1=knd.hash k∧e.2.scannable=true)→wV es ks→wV (e::es) (k::ks)
noncomputable def je (h:Heap) (a:Addr) (ks:List T):Prop:=∃o es ep t,h.get? a=some o∧o.ExactSet∧o.data=.set es ep t∧(∃ks',wV knd es.toList ks'∧ks'.Perm ks)∧es.size < scanBound∧t.fits es.size=true∧iG (bt w) t
noncomputable def ou (ks:List T) (k:T):List T:=if k∈ks then ks else ks++[k]
variable {knd}
theorem wV.elems {es:List (Int×Value)} {ks:List T} (h:wV knd es ks):ElemsOf knd es:=by
 induction h with
 | nil=>intro e he; cases he
 | cons a _ ih=>
  intro e he
  rcases List.mem_cons.mp he with rfl | he
  ·exact ⟨⟨_,a.1,a.2.1⟩,a.2.2⟩
  ·exact ih e he
theorem wV.len {es:List (Int×Value)} {ks:List T} (h:wV knd es ks):es.length=ks.length:=by
 induction h with
 | nil=>rfl
 | cons _ _ ih=>simp [ih]
theorem wV.perm {es es':List (Int×Value)} (p:es'.Perm es):∀{ks:List T},wV knd es ks→∃ks',wV knd es' ks'∧ks'.Perm ks:=by
 induction p with
 | nil=>intro ks h; exact ⟨ks,h,.refl _⟩
 | cons x _ ih=>
  intro ks h
  cases h with
  | cons a r=>
   obtain ⟨ks',h1,h2⟩:=ih r
   exact ⟨_::ks',.cons a h1,h2.cons _⟩
 | swap x y l=>
  intro ks h
  cases h with
  | cons a r=>
   cases r with
   | cons b r=>exact ⟨_::_::_,.cons b (.cons a r),.swap ..⟩
 | trans _ _ ih1 ih2=>
  intro ks h
  obtain ⟨k2,h1,p1⟩:=ih2 h
  obtain ⟨k3,h2,p2⟩:=ih1 h1
  exact ⟨k3,h2,p2.trans p1⟩
theorem wV.push {es:List (Int×Value)} {ks:List T} (h:wV knd es ks) {k:T} {x:Value} (hk:knd.is k x=true) (hx:x.scannable=true):wV knd (es++[(knd.hash k,x)]) (ks++[k]):=by
 induction h with
 | nil=>exact .cons ⟨hk,rfl,hx⟩ .nil
 | cons a _ ih=>exact .cons a ih
theorem wV.mem {es:List (Int×Value)} {ks:List T} (h:wV knd es ks) {k:T} {x:Int×Value} (hm:x∈es) (hp:knd.is k x.2=true):k∈ks:=by
 induction h with
 | nil=>cases hm
 | cons a _ ih=>
  rcases List.mem_cons.mp hm with rfl | hm
  ·cases knd.inj _ _ _ hp a.1
   exact List.mem_cons_self ..
  ·exact List.mem_cons_of_mem _ (ih hm)
theorem wV.none {es:List (Int×Value)} {ks:List T} (h:wV knd es ks) {k:T} (e:es.findIdx? (fun e=>knd.is k e.2)=.none):k∉ks:=by
 have e':=List.findIdx?_eq_none_iff.mp e
 clear e
 induction h with
 | nil=>intro h; cases h
 | cons a _ ih=>
  intro hm
  rcases List.mem_cons.mp hm with rfl | hm
  ·have:=e' _ (List.mem_cons_self ..)
   rw [a.1] at this
   cases this
  ·exact ih (fun x hx=>e' x (List.mem_cons_of_mem _ hx)) hm
variable {A:Around} {E:Value→Shared→Prop} {s:Shared}
theorem Hi {h:Heap} {a:Addr} {o:Obj} {es es':Array (Int×Value)} {ep:Nat} {t t':SetTable} {ks:List T} (ho:h.get? a=some o) (ex:o.ExactSet) (hd:o.data=.set es ep t) (e:∃ks',wV knd es'.toList ks'∧ks'.Perm ks)
  (hb:es'.size < scanBound) (hf:t'.fits es'.size=true) (tb:iG (bt w) t'):
  ∃o',(h.update a (Obj.putSet es' t')).get? a=some o'∧o'.ExactSet∧o'.data=.set es' (ep + 1) t'∧je knd (h.update a (Obj.putSet es' t')) a ks:=by
 have g:=Heap.get?_update_self (Obj.putSet es' t') ho (by rw [putSet_of es' t' hd]; rfl)
 rw [putSet_of es' t' hd] at g
 exact ⟨_,g,ex,rfl,_,es',ep + 1,t',g,ex,rfl,e,hb,hf,tb⟩
theorem Hj {a:Addr} {k:T} {x:Value} {ks:List T} {Q:Bool→Shared→Prop} (hk:knd.is k x=true) (hx:x.scannable=true) (hS:je knd s.heap a ks) (room:ks.length + 1 < scanBound)
  (h:∀b h',Heap.SameBut a s.heap h'→je knd h' a (ou ks k)→Q b { s with heap:=h' }):wpAny (model prog w) A (setAddHashed a x (knd.hash k)) Q E s:=by
 obtain ⟨o,es,ep,t,ho,ex,hd,⟨k0,ek,pk⟩,hb,hf,tb⟩:=hS
 have sz:es.size=ks.length:=by rw [←Array.length_toList,ek.len,pk.length_eq]
 have el:=ek.elems
 have mono:∀{u:Unit→Shared→Prop} {s1:Shared} (g:Bool),u () s1→∀r:Sem Unit,(r=rule "set.scan.the-table-gave-way"∨r=pure ())→wpAny (model prog w) A r u E s1:=fun g hu r hr=>by
  rcases hr with rfl | rfl
  ·exact wpAny_rule hu
  ·exact wpAny_pure hu
 unfold setAddHashed setAddHashedIn
 refine wpAny_holding (wpAny_bind (wpAny_setState_of ho hd hf ?_))
 simp only [byScan_of hx hb el,if_true]
 unfold setAddByScan
 refine wpAny_bind (wpAny_bind (wpAny_rule (wpAny_bind (wpAny_setScan_of hk ho hd hf el ?_))))
 cases hr:es.toList.findIdx? (fun e=>knd.is k e.2) with
 | some j=>
  obtain ⟨hj,hp,_⟩:=List.findIdx?_eq_some_iff_getElem.mp hr
  have hm:k∈ks:=pk.mem_iff.mp (ek.mem (List.getElem_mem hj) hp)
  refine wpAny_pure (wpAny_pure (h _ s.heap (Heap.SameBut.refl a s.heap) ?_))
  rw [ou,if_pos hm]
  exact ⟨o,es,ep,t,ho,ex,hd,⟨k0,ek,pk⟩,hb,hf,tb⟩
 | none=>
  have hm:k∉ks:=fun z=>ek.none hr (pk.mem_iff.mpr z)
  have pn:=layNew_perm t es (knd.hash k) x
  have fn:=layNew_fits t es (knd.hash k) x
  have tn:=tb.layNew es (knd.hash k) x
  dsimp only
  generalize layNew t es (knd.hash k) x=L at pn fn tn ⊢
  obtain ⟨es1,t1,wd,gv⟩:=L
  dsimp only at pn fn tn ⊢
  rw [Array.toList_push] at pn
  obtain ⟨k1,e1,p1⟩:=(ek.push hk hx).perm pn
  have ak:ou ks k=ks++[k]:=by rw [ou,if_neg hm]
  have q1:∃ks',wV knd es1.toList ks'∧ks'.Perm (ou ks k):=⟨k1,e1,by rw [ak]; exact p1.trans (pk.append_right _)⟩
  have Te:es1.size=es.size + 1:=by rw [←Array.length_toList,pn.length_eq,List.length_append,Array.length_toList]; rfl
  have b1:es1.size < scanBound:=by omega
  refine wpAny_bind (mono gv ?_ _ (by cases gv <;> first | exact .inl rfl | exact .inr rfl))
  have tail:∀t2:SetTable,t2.fits es1.size=true→iG (bt w) t2→wpAny (model prog w) A (do
    storeSet a es1 t2
    if (!wd&&t2.tooFull)=true then do
      (match (PySem.relayAll t2 es1 (SetTable.grown es1.size)).2.2 with | true=>rule "set.scan.the-table-gave-way" | false=>pure ())
      storeSet a (PySem.relayAll t2 es1 (SetTable.grown es1.size)).1 (PySem.relayAll t2 es1 (SetTable.grown es1.size)).2.1
      pure (some true)
     else pure (some true)) (fun r s'=>wpAny (model prog w) A (match r with | some added=>pure added | none=>setAddHashedIn a x (knd.hash k) 99999) Q E s') E s:=fun t2 f2 tb2=>by
   obtain ⟨o1,g1,ex1,d1,S1⟩:=Hi (knd:=knd) ho ex hd q1 b1 f2 tb2
   refine wpAny_bind (wpAny_storeSet_of ho hd ?_ (fits_of_scanBound b1))
   have uN:=Heap.SameBut.update s.heap a (Obj.putSet es1 t2)
   split
   ·have pr:=relayAll_perm t2 es1 (SetTable.grown es1.size)
    have fr:=relayAll_fits t2 es1 (SetTable.grown es1.size)
    have tr:=tb2.relayAll es1 (SetTable.grown es1.size)
    generalize PySem.relayAll t2 es1 (SetTable.grown es1.size)=L2 at pr fr tr ⊢
    obtain ⟨es2,t3,gv2⟩:=L2
    dsimp only at pr fr tr ⊢
    obtain ⟨k2,e2,p2⟩:=q1
    obtain ⟨k3,e3,p3⟩:=e2.perm pr
    have sz2:es2.size=es1.size:=by rw [←Array.length_toList,pr.length_eq,Array.length_toList]
    have b2:es2.size < scanBound:=by omega
    refine wpAny_bind (mono gv2 ?_ _ (by cases gv2 <;> first | exact .inl rfl | exact .inr rfl))
    refine wpAny_bind (wpAny_storeSet_of g1 d1 ?_ (fits_of_scanBound b2))
    obtain ⟨_,_,_,_,S2⟩:=Hi (knd:=knd) g1 ex1 d1 ⟨k3,e3,p3.trans p2⟩ b2 fr tr
    exact wpAny_pure (wpAny_pure (h _ _ (uN.trans (Heap.SameBut.update ..)) S2))
   ·exact wpAny_pure (wpAny_pure (h _ _ uN S1))
  split
  ·refine wpAny_bind ?_
   rw [hashByValue_scannable 8 hx]
   refine wpAny_pure ?_
   by_cases hv:plainKind x=true
   ·simp only [hv,if_true]
    exact tail t1 fn tn
   ·simp only [hv,Bool.false_eq_true,if_false]
    exact tail _ (SetTable.fits_plain_off fn) (tn.plain false)
  ·refine wpAny_bind (wpAny_pure ?_)
   simp only [if_true]
   exact tail t1 fn tn
end
end L2
namespace L2
open PySem PySem.Spec PySem.W
section
variable {T:Type} [DecidableEq T]
noncomputable def dedup (ks:List T):List T:=ks.foldl ou []
theorem uO (ks:List T) (k:T):dedup (ks++[k])=ou (dedup ks) k:=by simp [dedup,List.foldl_append]
theorem Mv {ks:List T} {k x:T}:x∈ou ks k ↔ x∈ks∨x=k:=by
 unfold ou
 split
 ·rename_i h
  exact ⟨.inl,fun z=>z.elim id fun e=>e ▸ h⟩
 ·simp
theorem mG {x:T}:∀(ks as:List T),x∈ks.foldl ou as ↔ x∈as∨x∈ks
 | [],as=>by simp
 | k::ks,as=>by rw [List.foldl_cons,mG,Mv,List.mem_cons,or_assoc]
theorem JS {ks:List T} {x:T}:x∈dedup ks ↔ x∈ks:=by
 rw [dedup,mG]
 simp
theorem Mw (ks:List T) (k:T):(ou ks k).length≤ks.length + 1:=by
 unfold ou
 split <;> simp
theorem mH:∀(ks as:List T),(ks.foldl ou as).length≤as.length + ks.length
 | [],_=>by simp
 | k::ks,as=>by
  have h1:=mH ks (ou as k)
  have h2:=Mw as k
  simp only [List.foldl_cons,List.length_cons]
  omega
theorem iK (ks:List T):(dedup ks).length≤ks.length:=by simpa [dedup] using mH ks []
end
section
variable {prog:Program} {w:World} {T:Type} [DecidableEq T] {knd:PySem.KeyKind prog w T} {A:Around} {E:Value→Shared→Prop} {s:Shared}
theorem je.at {h h':Heap} {a:Addr} {ks:List T} (H:je knd h a ks) (e:∀o,h.get? a=some o→h'.get? a=some o):je knd h' a ks:=
 let ⟨o,es,ep,t,ho,r⟩:=H
 ⟨o,es,ep,t,e o ho,r⟩
theorem je.lt {h:Heap} {a:Addr} {ks:List T} (H:je knd h a ks):a < h.objs.size:=let ⟨_,_,_,_,ho,_⟩:=H; Heap.lt_size ho
theorem je.ty {a:Addr} {ks:List T} (H:je knd s.heap a ks):s.TypeIs (.ref a) "set":=let ⟨o,_,_,_,ho,ex,_⟩:=H; ⟨o,ho,ex.1⟩
theorem Mx {R:Result→Shared→Prop} {I:Addr} {fp wr:List Addr} {G:Array GenState→Array GenState→Prop} {n:Nat} {Pv:Nat→Value→Prop} {St:Nat→Shared→Prop} (W:WalksS prog w A.in1 I fp wr G n Pv St) {S:Addr} (out:S∉fp) {val:Nat→T}
  (hv:∀i v,Pv i v→knd.is (val i) v=true∧v.scannable=true) (room:n + 1 < scanBound):∀(m i:Nat) (s:Shared),n - i=m→i≤n→St i s→je knd s.heap S (dedup ((List.range i).map val))→
  (∀s',Moved (S::wr) G s s'→je knd s'.heap S (dedup ((List.range n).map val))→R (.ok (.ret .none)) s')→codeAny (model prog w) A (.builtin "set.update.loop" ⟨[.ref S,.ref I],[]⟩) R s:=by
 have Eu:S∉wr:=fun z=>out (W.sub _ z)
 have Tf:∀b,b∈wr→b∈S::wr:=fun b z=>List.mem_cons_of_mem _ z
 intro m
 induction m with
 | zero=>
  intro i s hm hi st hS hR
  obtain rfl:i=n:=by omega
  refine codeAny_builtin PyProof.Rows.F.entry_set_update_loop ?_; rw [Around.under_plainId PyProof.Rows.F.plain_set_update_loop _]
  show wpAny _ A.in1 (pyNext (.ref I) >>= _) _ _ s; refine wpAny_bind (W.done s _ _ st fun s' mv=>?_)
  show wpAny _ A.in1 (ret Value.none) _ _ s'; exact wpAny_pure (hR s' (mv.mono Tf) (hS.at fun o e=>mv.heap S o Eu e))
 | succ m ih=>
  intro i s hm hi st hS hR
  have lt:i < n:=by omega
  refine codeAny_builtin PyProof.Rows.F.entry_set_update_loop ?_; rw [Around.under_plainId PyProof.Rows.F.plain_set_update_loop _]
  show wpAny _ A.in1 (pyNext (.ref I) >>= _) _ _ s; refine wpAny_bind (W.item i s _ _ lt st fun v s' pv st' mv=>?_)
  obtain ⟨isv,scv⟩:=hv i v pv
  have hS1:je knd s'.heap S (dedup ((List.range i).map val)):=hS.at fun o e=>mv.heap S o Eu e
  show wpAny _ A.in1 (holding [v] (setAdd S v) >>= _) _ _ s'; refine wpAny_bind (wpAny_holding ?_); unfold setAdd; refine wpAny_holding (wpAny_bind (knd.pyHash isv ?_))
  have few:=iK ((List.range i).map val)
  rw [List.length_map,List.length_range] at few
  refine Hj (knd:=knd) (s:={ s' with toks:=s'.toks + 1 }) isv scv hS1 (by omega) fun _ h' same hS2=>?_
  have hS3:je knd h' S (dedup ((List.range (i + 1)).map val)):=by rw [List.range_succ,List.map_append,List.map_singleton,uO]; exact hS2
  refine wpAny_pure ⟨plainId_quiet PyProof.Rows.F.plain_set_update_loop _,ih (i + 1) _ (by omega) lt (W.frame _ s' _ _ st' (Nat.le_succ _) fun b hb o e=>(same.2 b fun z=>out (z ▸ hb)).trans e) hS3 fun s2 mv2 hS4=>?_⟩
  exact hR s2 (Moved.trans W.gtrans ((mv.mono Tf).then_heap (Nat.le_succ _) fun b o hb e=>(same.2 b fun z=>hb (by rw [z]; exact List.mem_cons_self)).trans e) mv2) hS4
end
end L2
namespace L2
open PySem PySem.Spec PySem.W
section
variable {prog:Program} {w:World} {T:Type} [DecidableEq T] {knd:PySem.KeyKind prog w T} {A:Around} {E:Value→Shared→Prop} {s:Shared}
noncomputable def jD (w:World):Obj:={ cls:=.type "set",dict:=none,data:=.set #[] 0 (.fresh 0 0 (bt w)) }
theorem My {h:Heap} {a:Addr} (g:h.get? a=some (jD w)):je knd h a []:=⟨_,#[],0,_,g,⟨rfl,rfl,rfl⟩,rfl,⟨[],.nil,.refl _⟩,by decide,rfl,iG.fresh _⟩
theorem Mz (a:Value) {Q1:Value→Shared→Prop} (h:Q1 (.ref s.heap.objs.size) { s with heap:=s.heap.push (jD w) }):codeAny (model prog w) A (.call (.builtin "set.__new__") ⟨[.type "set",a],[]⟩) (wants Q1 E) s:=by
 refine codeAny_of_tree ?_
 show wpAny _ A.in1 (checkBuiltinCall "set.__new__" ⟨[.type "set",a],[]⟩ >>= fun _=>again (.builtin "set.__new__" ⟨[.type "set",a],[]⟩)) _ _ s
 refine wpAny_bind (wpAny_of_eq (F.newCall_set_1 a) (wpAny_pure ⟨plainId_quiet PySem.F.plain_set_new _,codeAny_builtin PySem.F.entry_set_new ?_⟩)); rw [Around.under_plainId PySem.F.plain_set_new _]
 unfold Builtin.«set.__new__» Builtin.Frozenset.newClass
 have sub:=PySem.sub_set_self
 obtain ⟨h0,g0,d0,t0,o0⟩:=s
 dsimp only
 wp_walk
 refine wpAny_askSetting (wpAny_pure ?_)
 dsimp only
 simp only [newObj]
 refine wpAny_bind (wpAny_alloc (wpAny_pure ?_))
 exact wpAny_pure h
theorem JT {l:Addr} {items:Array Value} {val:Nat→T} {Q:Value→Shared→Prop} (hh:A.handled=none) (hl:s.heap.IsList l items) (hv:∀i v,items[i]?=some v→knd.is (val i) v=true∧v.scannable=true) (room:items.size + 1 < scanBound)
  (h:∀(h':Heap) (tk:Nat),je knd h' s.heap.objs.size (dedup ((List.range items.size).map val))→(∀b o,s.heap.get? b=some o→h'.get? b=some o)→Q (.ref s.heap.objs.size) { s with heap:=h',toks:=tk }):
  wpAny (model prog w) A (call (.type "set") [.ref l]) Q E s:=by
 obtain ⟨c0,tl0,acW⟩:=PySem.F.called_set.mro
 have ab3:=PySem.F.called_set.made
 have acX:=PySem.F.called_set.sub
 refine wpAny_call (codeAny_of_tree (show wpAny _ _ (callAny (.type "set") _) _ _ _ from ?_))
 refine wpAny_pure ⟨Code.quiet_builtin _ (by decide +kernel),codeAny_builtin F.entry_type_call ?_⟩; rw [Around.under_plain (weight_type_call_type "set" [.ref l] []) rfl]
 have n1:=PySem.F.called_set.notType
 have n2:=PySem.F.called_set.canCreate
 have n3:=PySem.F.typeCall_set_1 (.ref l)
 repeat (any_goals (first | assumption | wp_step))
 refine codeAny_mono (Mz (.ref l) (E:=E) (Q1:=fun obj s1=>obj=.ref s.heap.objs.size∧s1={ s with heap:=s.heap.push (jD w) }) ⟨rfl,rfl⟩) fun r s1 hr=>?_
 cases r with
 | error e=>exact hr
 | ok fl=>
  cases fl with
  | ret obj=>
   obtain ⟨rfl,rfl⟩:=hr
   have g0:(s.heap.push (jD w)).get? s.heap.objs.size=some (jD w):=Heap.get?_push_size _ rfl
   have ty0:Shared.TypeIs { s with heap:=s.heap.push (jD w) } (.ref s.heap.objs.size) "set":=⟨_,g0,rfl⟩
   have li:=PySem.F.called_set.init.lookup
   have bi:=PySem.F.called_set.init.bind (.ref s.heap.objs.size)
   repeat (any_goals (first | assumption | wp_step))
   refine codeAny_mono (codeAny_call_builtin (R:=wants (fun r s2=>r=.none∧∃h' tk,s2={ s with heap:=h',toks:=tk }∧je knd h' s.heap.objs.size (dedup ((List.range items.size).map val))∧∀b o,s.heap.get? b=some o→h'.get? b=some o) E) PySem.F.called_set.init.plain PySem.F.entry_set_init (check_set_init_1 ty0 ?_)) fun r2 s2 hr2=>?_
   ·obtain ⟨ol,hol,hcl,nl,hdl⟩:=hl
    obtain ⟨ocls,odict,odata,oslots⟩:=ol
    simp only at hcl hdl
    subst hcl; subst hdl
    have hol1:(s.heap.push (jD w)).get? l=some { cls:=.type "list",dict:=odict,data:=.seq items nl,slots:=oslots }:=Heap.get?_push_of_some _ hol
    have u1:=PySem.F.sub_list_set
    have u2:=PySem.F.sub_list_frozenset
    have u3:(Value.type "list"==Value.type "dict")=false:=by decide
    have li1:(s.heap.push (jD w)).IsList l items:=⟨_,hol1,rfl,nl,rfl⟩
    unfold Builtin.«set.__init__» noKeywords Builtin.Frozenset.updateFrom
    generalize keep:pyIter=PI
    wp_walk
    subst keep
    refine wpAny_pyIter_list li1 (wpAny_bind (wpAny_runValue ?_))
    have lt0:l < s.heap.objs.size:=Heap.lt_size hol
    have hh3:A.in1.in1.in1.handled=none:=by simp [hh]
    have ne0:l≠(s.heap.push (jD w)).objs.size:=by rw [Heap.size_push]; exact Nat.ne_of_lt (Nat.lt_succ_of_lt lt0)
    have aad:s.heap.objs.size∉[(s.heap.push (jD w)).objs.size,l]:=by
     rw [Heap.size_push]
     simp only [List.mem_cons,List.not_mem_nil,or_false,not_or]
     exact ⟨Nat.ne_of_lt (Nat.lt_succ_self _),Nat.ne_of_gt lt0⟩
    refine Mx (knd:=knd) (val:=val) ((Walks.list hh3 _ l ne0 items).toS) aad hv room (items.size - 0) 0 _ (by omega) (Nat.zero_le _) ⟨⟨_,Heap.get?_push_size _ rfl,rfl,rfl⟩,li1.push _⟩ (My (Heap.get?_push_of_some _ g0)) fun s3 mv hS=>?_
    obtain ⟨h3,g3,d3,t3,o3⟩:=s3
    obtain rfl:g3=s.gens:=mv.gens
    obtain rfl:d3=s.drawn:=mv.drawn
    obtain rfl:o3=s.os:=mv.os
    show wpAny _ _ _ _ _ _
    refine wpAny_pure (show wpAny _ _ (ret Value.none) _ _ _ from wpAny_pure ⟨rfl,h3,t3,rfl,hS,fun b o e=>?_⟩)
    have ltb:b < s.heap.objs.size:=Heap.lt_size e
    refine mv.heap b o ?_ (Heap.get?_push_of_some _ (Heap.get?_push_of_some _ e))
    rw [Heap.size_push]
    simp only [List.mem_cons,List.not_mem_nil,or_false,not_or]
    exact ⟨Nat.ne_of_lt ltb,Nat.ne_of_lt (Nat.lt_succ_of_lt ltb)⟩
   ·cases r2 with
    | error e=>exact hr2
    | ok f2=>
     cases f2 with
     | ret r=>
      obtain ⟨rfl,h',tk,rfl,hS,kk⟩:=hr2
      repeat (any_goals (first | assumption | wp_step))
      exact h _ _ hS kk
     | _=>exact hr2.elim
  | _=>exact hr.elim
end
end L2
namespace L2
open PySem PySem.Spec PySem.W
theorem Bq:Manifest.owners.lookup (String.ofList "rotareti_tes".toList.reverse)=some Manifest.sig_set_iterator:=by kernel_rfl
theorem fJ:Slot "set_iterator" "__next__" "set_iterator.__next__":=.of (owner:="set_iterator") (n:="__next__") (by rw [typeLookup_type,builtinLookup_eq_fast]; kernel_rfl) (by decide +kernel) (by decide +kernel) (by decide +kernel) (by first | exact .inl (by decide +kernel) | exact .inr (by decide +kernel)) (by rw [isSubtype_type]; kernel_rfl)
theorem Hl:Slot "set_iterator" "__iter__" "set_iterator.__iter__":=.of (owner:="set_iterator") (n:="__iter__") (by rw [typeLookup_type,builtinLookup_eq_fast]; kernel_rfl) (by decide +kernel) (by decide +kernel) (by decide +kernel) (by first | exact .inl (by decide +kernel) | exact .inr (by decide +kernel)) (by rw [isSubtype_type]; kernel_rfl)
theorem nJ:entryFor table "set_iterator.__next__"=some Builtin.«set_iterator.__next__»:=entryFor_of_tree (by kernel_rfl)
theorem JV:entryFor table "set_iterator.__iter__"=some Builtin.«dict_keyiterator.__iter__»:=entryFor_alias (id':="dict_keyiterator.__iter__") (by kernel_rfl) rfl (by decide +kernel) (by kernel_rfl)
theorem Ew:entryFor table "set.__iter__"=some Builtin.«frozenset.__iter__»:=entryFor_alias (id':="frozenset.__iter__") (by kernel_rfl) rfl (by decide +kernel) (by kernel_rfl)
theorem nM (a:Value):argsOk "set_iterator.__next__" ⟨[a],[]⟩:=by
 unfold argsOk; rw [signature?_of (id:="set_iterator.__next__") (n:="__txen__".toList) (o:="rotareti_tes".toList) (by kernel_rfl) Bq]; kernel_rfl
theorem JW (a:Value):argsOk "set_iterator.__iter__" ⟨[a],[]⟩:=by
 unfold argsOk; rw [signature?_of (id:="set_iterator.__iter__") (n:="__reti__".toList) (o:="rotareti_tes".toList) (by kernel_rfl) Bq]; kernel_rfl
end L2
namespace L2
open PySem PySem.Spec PySem.W
section
variable {prog:Program} {w:World} {A:Around} {E:Value→Shared→Prop} {s:Shared} {it S:Addr} {es:Array (Int×Value)} {ep i n:Nat} {t:SetTable} {first:Value}
noncomputable def mJ (b:Bool) (h:Heap) (a:Addr) (es:Array (Int×Value)) (ep:Nat) (t:SetTable):Prop:=∃o,h.get? a=some o∧o.ExactSet∧o.data=.set es ep t∧t.fits es.size=true∧iG b t
theorem mJ.at {b:Bool} {h h':Heap} {a:Addr} (H:mJ b h a es ep t) (e:∀o,h.get? a=some o→h'.get? a=some o):mJ b h' a es ep t:=let ⟨o,ho,r⟩:=H; ⟨o,e o ho,r⟩
noncomputable def yc (h:Heap) (it S:Addr) (first:Value) (i n ep:Nat):Prop:=∃o,h.get? it=some o∧o.cls=.type "set_iterator"∧o.data=.fields #[first,rawInt i,.ref S,rawInt n,rawInt ep]
theorem yc.at {h h':Heap} (H:yc h it S first i n ep) (e:∀o,h.get? it=some o→h'.get? it=some o):yc h' it S first i n ep:=let ⟨o,ho,r⟩:=H; ⟨o,e o ho,r⟩
theorem yc.ty (H:yc s.heap it S first i n ep):s.TypeIs (.ref it) "set_iterator":=let ⟨o,ho,c,_⟩:=H; ⟨o,ho,c⟩
theorem yc.set {h:Heap} {j:Nat} {x:Value} {vs:Array Value} {o:Obj} (ho:h.get? it=some o) (hc:o.cls=.type "set_iterator") (hd:o.data=.fields vs):
  ∃o',(h.update it (Obj.mapFields (·.setIfInBounds j x))).get? it=some o'∧o'.cls=.type "set_iterator"∧o'.data=.fields (vs.setIfInBounds j x):=
 ⟨_,Heap.get?_update_self _ ho (Obj.isFreed_of_fields (Obj.data_mapFields hd _)),(Obj.cls_mapFields ..).trans hc,by rw [Obj.data_mapFields hd]⟩
theorem zu {Q:Value→Shared→Prop} (hit:yc s.heap it S first i n ep) (h:Q (.ref it) s):wpAny (model prog w) A (pyIter (.ref it)) Q E s:=by
 refine wpAny_pyIter_slot hit.ty Hl (wpAny_call_entry Hl hit.ty JV (show wpAny _ _ (ret (.ref it)) _ _ s from ?_) (JW _))
 exact wpAny_pure ⟨_,rfl,"set_iterator",_,hit.ty,fJ.lookup,h⟩
theorem Ho {Q:Option Value→Shared→Prop} {slot:Nat} {R:Option (Value×Nat)} (hit:yc s.heap it S (rawInt slot) i n ep) (hs:mJ (bt w) s.heap S es ep t) (hn:n=es.size) (ne:S≠it)
  (nx:∀{B:Around} {E':Value→Shared→Prop} {C:Option (Value×Nat)→Shared→Prop},C R s→wpAny (model prog w) B (setNext S slot i ep) C E' s) {x:Value} {nxt:Nat} (hR:R=some (x,nxt))
  (h:∀h',yc h' it S (rawInt nxt) (i + 1) n ep→Heap.SameBut it s.heap h'→Q (some x) { s with heap:=h' }):wpAny (model prog w) A (pyNext (.ref it)) Q E s:=by
 obtain ⟨o,ho,hc,hd⟩:=id hit
 obtain ⟨os,hos,exs,hds,hf,tb⟩:=id hs
 unfold pyNext
 refine wpAny_bind (wpAny_attempt (wpAny_callSpecial?_slot (name:=Str.ofString "__next__") hit.ty fJ (wpAny_call_entry fJ hit.ty nJ ?_ (nM _))))
 unfold Builtin.«set_iterator.__next__»
 refine wpAny_bind (wpAny_pure (wpAny_bind (wpAny_fieldsOf ho hd ?_)))
 dsimp only [rawInt]
 refine wpAny_bind (wpAny_setEntries_of hos hds hf ?_)
 subst hn; subst hR
 rw [if_neg (by simp)]
 refine wpAny_bind (nx ?_)
 dsimp only
 refine wpAny_bind (wpAny_setField ho hd (by simp) ?_)
 obtain ⟨o1,g1,c1,d1⟩:=yc.set (j:=0) (x:=.int nxt 0) ho hc hd
 refine wpAny_bind (wpAny_setField g1 d1 (by simp) ?_)
 obtain ⟨o2,g2,c2,d2⟩:=yc.set (j:=1) (x:=.int (i + 1) 0) g1 c1 d1
 refine wpAny_pure ⟨_,rfl,wpAny_pure (h _ ⟨o2,g2,c2,?_⟩ ((Heap.SameBut.update ..).trans (Heap.SameBut.update ..)))⟩
 rw [d2]
 simp [rawInt]
theorem Hq {Q:Option Value→Shared→Prop} {s':Shared} (hh:A.handled=none) (h:∀h',(∀b o,s'.heap.get? b=some o→h'.get? b=some o)→Q none { s' with heap:=h' }):
  wpAny (model prog w) A.in1 (do let e ←newExc (.type "StopIteration") []; (raiseNew e:Sem Fin)) (fun fin s1=>∃v,fin=Fin.done (Flow.ret v)∧wpAny (model prog w) A (pure (some v)) Q E s1)
   (fun e s1=>wpAny (model prog w) A (do if (←isInstance e (Value.type "StopIteration"))=true then pure none else throw e) Q E s1) s':=by
 refine wpAny_bind ?_
 simp only [newExc,newTuple]
 refine wpAny_bind (wpAny_newObj_type ?_ (by size_fits))
 refine wpAny_bind (m:=firstArgMember _ _) (wpAny_of_eq (a:=Value.none) (by first | rfl | (simp only [firstArgMember]; rfl)) ?_)
 refine wpAny_newObj_type ?_ (by size_fits); simp only [raiseNew]; refine wpAny_bind (wpAny_handled ?_)
 rw [show A.in1.handled=none from hh]; refine wpAny_bind (wpAny_pure (wpAny_throw ?_))
 refine wpAny_bind (wpAny_isInstance (T:="StopIteration") (b:=true) ⟨_,Heap.get?_push_size _ rfl,rfl⟩ isSubtype_stop ?_)
 exact wpAny_pure (h _ fun b o e=>Heap.get?_push_of_some _ (Heap.get?_push_of_some _ e))
theorem MF {Q:Option Value→Shared→Prop} {slot:Nat} (hh:A.handled=none) (hit:yc s.heap it S (rawInt slot) i n ep) (hs:mJ (bt w) s.heap S es ep t) (hn:n=es.size)
  (nx:∀{B:Around} {E':Value→Shared→Prop} {C:Option (Value×Nat)→Shared→Prop},C none s→wpAny (model prog w) B (setNext S slot i ep) C E' s)
  (h:∀h',(∀b o,b≠it→s.heap.get? b=some o→h'.get? b=some o)→Q none { s with heap:=h' }):wpAny (model prog w) A (pyNext (.ref it)) Q E s:=by
 obtain ⟨o,ho,hc,hd⟩:=id hit
 obtain ⟨os,hos,exs,hds,hf,tb⟩:=id hs
 unfold pyNext
 refine wpAny_bind (wpAny_attempt (wpAny_callSpecial?_slot (name:=Str.ofString "__next__") hit.ty fJ (wpAny_call_entry fJ hit.ty nJ ?_ (nM _))))
 unfold Builtin.«set_iterator.__next__»
 refine wpAny_bind (wpAny_pure (wpAny_bind (wpAny_fieldsOf ho hd ?_)))
 dsimp only [rawInt]
 refine wpAny_bind (wpAny_setEntries_of hos hds hf ?_)
 subst hn
 rw [if_neg (by simp)]
 refine wpAny_bind (nx ?_)
 dsimp only
 refine wpAny_bind (wpAny_setField ho hd (by simp) ?_)
 exact Hq hh fun h' kk=>h h' fun b o hb e=>kk b o (((Heap.SameBut.update ..).2 b hb).trans e)
end
end L2
namespace L2
open PySem PySem.Spec PySem.W
section
variable {prog:Program} {w:World} {A:Around} {E:Value→Shared→Prop} {s:Shared} {it S:Addr} {es:Array (Int×Value)} {ep i n:Nat} {t:SetTable} {first:Value}
theorem ue {Q:Bool→Shared→Prop} (h:Q (!bt w) s):wpAny (model prog w) A setsByText Q E s:=by
 unfold setsByText
 refine wpAny_bind (wpAny_askSetting (wpAny_pure ?_))
 have h':Q (w.params.followText "set-order") s:=by simpa [bt] using h
 exact h'
theorem oY {α:Type}:∀{l:List α} {j:Nat} (h:j < l.length),(l[j]::l.eraseIdx j).Perm l
 | [],j,h=>by cases h
 | a::l,0,h=>.refl _
 | a::l,j + 1,h=>by
  have:=oY (l:=l) (j:=j) (by simpa using h)
  simp only [List.getElem_cons_succ,List.eraseIdx_cons_succ]
  exact (List.Perm.swap ..).trans (this.cons a)
theorem ye {C:Option (Value×Nat)→Shared→Prop} {slot:Nat} (hs:mJ (bt w) s.heap S es ep t) (hb:bt w=true) (nd:(!t.plain&&decide (es.size > 1))=false)
  (h:C (match es[SetTable.below t.place slot]?,t.place[SetTable.below t.place slot]? with | some (_,x),some j=>some (x,j + 1) | _,_=>none) s):wpAny (model prog w) A (setNext S slot i ep) C E s:=by
 obtain ⟨o,ho,ex,hd,hf,tb⟩:=hs
 unfold setNext
 refine wpAny_bind (wpAny_setState_of ho hd hf ?_)
 refine wpAny_bind (ue ?_)
 rw [hb]
 simp only [Bool.not_true,Bool.false_eq_true,if_false]
 refine wpAny_ite_split (fun z=>?_) (fun _=>?_)
 ·have z':(!t.plain&&decide (es.size > 1))=true:=z
  rw [nd] at z'
  cases z'
 refine wpAny_bind (show wpAny _ _ (if (!t.led&&!es.isEmpty)=true then _ else _) _ _ _ from ?_)
 rw [tb.led,hb]
 simp only [Bool.not_true,Bool.false_and,Bool.false_eq_true,if_false]
 exact wpAny_pure (wpAny_pure h)
theorem yf {C:Option (Value×Nat)→Shared→Prop} {slot:Nat} (hs:mJ (bt w) s.heap S es ep t) (hb:bt w=false)
  (h:C (((pickOrder (w.params.setOrder S ep) es)[i]?).map fun e=>(e.2,slot)) s):wpAny (model prog w) A (setNext S slot i ep) C E s:=by
 obtain ⟨o,ho,ex,hd,hf,tb⟩:=hs
 unfold setNext
 refine wpAny_bind (wpAny_setState_of ho hd hf ?_)
 refine wpAny_bind (ue ?_)
 rw [hb]
 simp only [Bool.not_false,if_true,bne_self_eq_false,Bool.false_eq_true,if_false]
 refine wpAny_bind ?_
 unfold setWalk
 refine wpAny_bind (wpAny_setState_of ho hd hf ?_)
 refine wpAny_bind (ue ?_)
 rw [hb]
 simp only [Bool.not_false,if_true]
 refine wpAny_bind (wpAny_askSetting (wpAny_pure ?_))
 exact wpAny_pure h
theorem Hr {α:Type} (f:Nat→Nat):∀(m k:Nat) (left:List α) (out:Array α),left.length=m→(pickOrder.go f m k left out).toList.Perm (out.toList++left)
 | 0,k,left,out,h=>by
  unfold pickOrder.go
  rw [List.length_eq_zero_iff.mp h]
  simp
 | m + 1,k,left,out,h=>by
  unfold pickOrder.go
  have hl:f k % left.length < left.length:=Nat.mod_lt _ (by omega)
  rw [List.getElem?_eq_getElem hl]
  dsimp only
  refine (Hr f m (k + 1) _ _ (by rw [List.length_eraseIdx]; simp [hl]; omega)).trans ?_
  rw [Array.toList_push,List.append_assoc]
  refine List.Perm.append_left _ ?_
  exact oY hl
theorem rC {α:Type} (f:Nat→Nat) (xs:Array α):(pickOrder f xs).toList.Perm xs.toList:=by
 have:=Hr f xs.size 0 xs.toList #[] (by simp)
 simpa [pickOrder] using this
theorem MJ {src:Source} {m:Nat} {Q:Nat→Shared→Prop} (hm:m≠0) (h:∀j d,j < m→Q j { s with drawn:=d }):wpAny (model prog w) A (choose src m) Q E s:=fun Γ p _=>⟨hm,h _ _ (Nat.mod_lt _ (Nat.pos_of_ne_zero hm))⟩
theorem Br {α:Type}:∀(m:Nat) (xs:List α) (s:Shared) (Q:List α→Shared→Prop),xs.length=m→(∀ys d,ys.Perm xs→Q ys { s with drawn:=d })→wpAny (model prog w) A (drawOrder m xs) Q E s
 | 0,xs,s,Q,hl,h=>by
  unfold drawOrder
  rw [List.length_eq_zero_iff.mp hl] at h
  exact wpAny_pure (h [] s.drawn (.refl _))
 | m + 1,[],s,Q,hl,h=>by cases hl
 | m + 1,x::xs,s,Q,hl,h=>by
  unfold drawOrder
  refine wpAny_bind (MJ (by simp) fun j d hj=>?_)
  rw [List.getElem?_eq_getElem hj]
  dsimp only
  refine wpAny_bind (Br m _ _ _ (by rw [List.length_eraseIdx,if_pos hj]; simpa using hl) fun ys d' hp=>?_)
  exact wpAny_pure (h _ d' ((hp.cons _).trans (oY hj)))
end
end L2
namespace L2
open PySem PySem.Spec PySem.W
section
variable {prog:Program} {w:World} {A:Around} {E:Value→Shared→Prop} {s:Shared} {it S pl:Addr} {es:Array (Int×Value)} {ep i n:Nat} {t:SetTable} {ps:List Nat}
noncomputable def Ws (h:Heap) (pl:Addr) (ps:List Nat):Prop:=∃o c,h.get? pl=some o∧o.data=.seq (ps.map fun k:Nat=>rawInt k).toArray c
theorem Ws.at {h h':Heap} (H:Ws h pl ps) (e:∀o,h.get? pl=some o→h'.get? pl=some o):Ws h' pl ps:=let ⟨o,c,ho,r⟩:=H; ⟨o,c,e o ho,r⟩
theorem QF {Q:Option Value→Shared→Prop} {k:Nat} {e:Int×Value} (hit:yc s.heap it S (.ref pl) i n ep) (hs:mJ (bt w) s.heap S es ep t) (hp:Ws s.heap pl ps) (hn:n=es.size) (hk:ps[i]?=some k) (he:es[k]?=some e)
  (h:∀h',yc h' it S (.ref pl) (i + 1) n ep→Heap.SameBut it s.heap h'→Q (some e.2) { s with heap:=h' }):wpAny (model prog w) A (pyNext (.ref it)) Q E s:=by
 obtain ⟨o,ho,hc,hd⟩:=id hit
 obtain ⟨os,hos,exs,hds,hf,tb⟩:=id hs
 obtain ⟨op,cp,hop,hdp⟩:=hp
 unfold pyNext
 refine wpAny_bind (wpAny_attempt (wpAny_callSpecial?_slot (name:=Str.ofString "__next__") hit.ty fJ (wpAny_call_entry fJ hit.ty nJ ?_ (nM _))))
 unfold Builtin.«set_iterator.__next__»
 refine wpAny_bind (wpAny_pure (wpAny_bind (wpAny_fieldsOf ho hd ?_)))
 dsimp only [rawInt]
 refine wpAny_bind (wpAny_setEntries_of hos hds hf ?_)
 subst hn
 rw [if_neg (by simp)]
 refine wpAny_bind (wpAny_seqItems hop hdp ?_)
 dsimp only
 rw [show ((ps.map fun k:Nat=>rawInt k).toArray)[((i:Int)).toNat]?=some (.int (k:Int) 0) by simp [hk,rawInt]]
 dsimp only
 refine wpAny_bind ?_
 unfold setNextDrawn
 refine wpAny_bind (wpAny_setState_of hos hds hf ?_)
 simp only [Int.toNat_natCast,bne_self_eq_false,Bool.false_eq_true,if_false,he]
 refine wpAny_pure (wpAny_bind (wpAny_setField ho hd (by simp) ?_))
 obtain ⟨o1,g1,c1,d1⟩:=yc.set (j:=1) (x:=.int (i + 1) 0) ho hc hd
 refine wpAny_pure ⟨_,rfl,wpAny_pure (h _ ⟨o1,g1,c1,?_⟩ (Heap.SameBut.update ..))⟩
 rw [d1]
 simp [rawInt]
theorem Vn {Q:Option Value→Shared→Prop} (hh:A.handled=none) (hit:yc s.heap it S (.ref pl) i n ep) (hs:mJ (bt w) s.heap S es ep t) (hp:Ws s.heap pl ps) (hn:n=es.size) (hk:ps.length≤i)
  (h:∀h',(∀b o,b≠it→s.heap.get? b=some o→h'.get? b=some o)→Q none { s with heap:=h' }):wpAny (model prog w) A (pyNext (.ref it)) Q E s:=by
 obtain ⟨o,ho,hc,hd⟩:=id hit
 obtain ⟨os,hos,exs,hds,hf,tb⟩:=id hs
 obtain ⟨op,cp,hop,hdp⟩:=hp
 unfold pyNext
 refine wpAny_bind (wpAny_attempt (wpAny_callSpecial?_slot (name:=Str.ofString "__next__") hit.ty fJ (wpAny_call_entry fJ hit.ty nJ ?_ (nM _))))
 unfold Builtin.«set_iterator.__next__»
 refine wpAny_bind (wpAny_pure (wpAny_bind (wpAny_fieldsOf ho hd ?_)))
 dsimp only [rawInt]
 refine wpAny_bind (wpAny_setEntries_of hos hds hf ?_)
 subst hn
 rw [if_neg (by simp)]
 refine wpAny_bind (wpAny_seqItems hop hdp ?_)
 dsimp only
 rw [show ((ps.map fun k:Nat=>rawInt k).toArray)[((i:Int)).toNat]?=none by simp [hk]]
 dsimp only
 refine wpAny_bind (wpAny_setField ho hd (by simp) ?_)
 obtain ⟨o1,g1,c1,d1⟩:=yc.set (j:=0) (x:=.int 0 0) ho hc hd
 refine wpAny_bind (wpAny_setField g1 d1 (by simp) ?_)
 exact Hq hh fun h' kk=>h h' fun b o hb e=>kk b o ((((Heap.SameBut.update ..).trans (Heap.SameBut.update ..)).2 b hb).trans e)
theorem JX (hh:A.handled=none) (ne:S≠it) (hb:bt w=true) (nd:(!t.plain&&decide (es.size > 1))=false) (hz:t.place.size=es.size) (rs:t.place.toList.Pairwise (· < ·)):
  Walks prog w A it [it,S] [it] es.size (fun i v=>(es.toList.map (·.2))[i]?=some v) (fun i h=>yc h it S (rawInt (if i=0 then 0 else t.place.getD (i - 1) 0 + 1:Nat)) i es.size ep∧mJ (bt w) h S es ep t) where
 sub:=fun b hb=>by simp at hb; simp [hb]
 frame:=fun _ _ _ st hk=>⟨st.1.at fun o e=>hk it (by simp) o e,st.2.at fun o e=>hk S (by simp) o e⟩
 item:=fun i s Q E hi st hQ=>by
  have hp:i < t.place.size:=by omega
  have bl:SetTable.below t.place (if i=0 then 0 else t.place.getD (i - 1) 0 + 1)=i:=by
   by_cases z:i=0
   ·subst z
    exact Hh rs
   ·rw [if_neg z]
    have h1:i - 1 < t.place.size:=by omega
    have:=uL rs h1
    rw [Array.getD_eq_getD_getElem?,Array.getElem?_eq_getElem h1,Option.getD_some,this]
    omega
  refine Ho (R:=some (es[i].2,t.place[i] + 1)) st.1 st.2 rfl ne (fun c=>ye st.2 hb nd ?_) rfl fun h' hit' same=>hQ _ h' s.toks (by simp [hi]) ⟨?_,st.2.at fun o e=>(same.2 S ne).trans e⟩ fun b o hb e=>(same.2 b fun z=>hb (by simp [z])).trans e
  ·rw [bl,Array.getElem?_eq_getElem hi,Array.getElem?_eq_getElem hp]
   exact c
  ·have e1:(if i + 1=0 then 0 else t.place.getD (i + 1 - 1) 0 + 1)=t.place[i] + 1:=by
    rw [if_neg (by omega),Nat.add_sub_cancel,Array.getD_eq_getD_getElem?,Array.getElem?_eq_getElem hp,Option.getD_some]
   rw [e1]
   exact hit'
 done:=fun s Q E st hQ=>by
  have bl:SetTable.below t.place (if es.size=0 then 0 else t.place.getD (es.size - 1) 0 + 1)=es.size:=by
   by_cases z:es.size=0
   ·rw [if_pos z,z]
    exact Hh rs
   ·rw [if_neg z]
    have h1:es.size - 1 < t.place.size:=by omega
    have:=uL rs h1
    rw [Array.getD_eq_getD_getElem?,Array.getElem?_eq_getElem h1,Option.getD_some,this]
    omega
  refine MF hh st.1 st.2 rfl (fun c=>ye st.2 hb nd ?_) fun h' kk=>hQ h' s.toks fun b o hb e=>kk b o (fun z=>hb (by simp [z])) e
  rw [bl,Array.getElem?_eq_none (Nat.le_refl _)]
  exact c
 self:=fun _ _ _ _ st hQ=>zu st.1 hQ
theorem JZ (hh:A.handled=none) (ne:S≠it) (hb:bt w=false):
  Walks prog w A it [it,S] [it] es.size (fun i v=>((pickOrder (w.params.setOrder S ep) es).toList.map (·.2))[i]?=some v) (fun i h=>yc h it S (rawInt (0:Nat)) i es.size ep∧mJ (bt w) h S es ep t) where
 sub:=fun b hb=>by simp at hb; simp [hb]
 frame:=fun _ _ _ st hk=>⟨st.1.at fun o e=>hk it (by simp) o e,st.2.at fun o e=>hk S (by simp) o e⟩
 item:=fun i s Q E hi st hQ=>by
  have hl:(pickOrder (w.params.setOrder S ep) es).size=es.size:=by rw [←Array.length_toList,(rC _ es).length_eq,Array.length_toList]
  have hp:i < (pickOrder (w.params.setOrder S ep) es).size:=by omega
  refine Ho (R:=some ((pickOrder (w.params.setOrder S ep) es)[i].2,0)) st.1 st.2 rfl ne (fun c=>yf st.2 hb ?_) rfl fun h' hit' same=>hQ _ h' s.toks (by simp [hp]) ⟨hit',st.2.at fun o e=>(same.2 S ne).trans e⟩ fun b o hb e=>(same.2 b fun z=>hb (by simp [z])).trans e
  rw [Array.getElem?_eq_getElem hp]
  exact c
 done:=fun s Q E st hQ=>by
  have hl:(pickOrder (w.params.setOrder S ep) es).size=es.size:=by rw [←Array.length_toList,(rC _ es).length_eq,Array.length_toList]
  refine MF hh st.1 st.2 rfl (fun c=>yf st.2 hb ?_) fun h' kk=>hQ h' s.toks fun b o hb e=>kk b o (fun z=>hb (by simp [z])) e
  rw [Array.getElem?_eq_none (by omega)]
  exact c
 self:=fun _ _ _ _ st hQ=>zu st.1 hQ
theorem Ex (hh:A.handled=none) (ne:S≠it) (np:pl≠it) (pp:ps.Perm (List.range es.size)):
  Walks prog w A it [it,S,pl] [it] es.size (fun i v=>(ps.map fun k=>(es.getD k (0,.none)).2)[i]?=some v) (fun i h=>yc h it S (.ref pl) i es.size ep∧mJ (bt w) h S es ep t∧Ws h pl ps) where
 sub:=fun b hb=>by simp at hb; simp [hb]
 frame:=fun _ _ _ st hk=>⟨st.1.at fun o e=>hk it (by simp) o e,st.2.1.at fun o e=>hk S (by simp) o e,st.2.2.at fun o e=>hk pl (by simp) o e⟩
 item:=fun i s Q E hi st hQ=>by
  have hl:ps.length=es.size:=by rw [pp.length_eq,List.length_range]
  have hp:i < ps.length:=by omega
  have hk:ps[i] < es.size:=List.mem_range.mp (pp.mem_iff.mp (List.getElem_mem hp))
  refine QF (k:=ps[i]) (e:=es[ps[i]]) st.1 st.2.1 st.2.2 rfl (List.getElem?_eq_getElem hp) (Array.getElem?_eq_getElem hk) fun h' hit' same=>hQ _ h' s.toks ?_ ⟨hit',st.2.1.at fun o e=>(same.2 S ne).trans e,st.2.2.at fun o e=>(same.2 pl np).trans e⟩ fun b o hb e=>(same.2 b fun z=>hb (by simp [z])).trans e
  rw [List.getElem?_map,List.getElem?_eq_getElem hp,Option.map_some,Array.getD_eq_getD_getElem?,Array.getElem?_eq_getElem hk]
  rfl
 done:=fun s Q E st hQ=>by
  have hl:ps.length=es.size:=by rw [pp.length_eq,List.length_range]
  exact Vn hh st.1 st.2.1 st.2.2 rfl (by omega) fun h' kk=>hQ h' s.toks fun b o hb e=>kk b o (fun z=>hb (by simp [z])) e
 self:=fun _ _ _ _ st hQ=>zu st.1 hQ
end
end L2
namespace L2
open PySem PySem.Spec PySem.W
section
variable {prog:Program} {w:World} {A:Around} {E:Value→Shared→Prop} {s:Shared} {S:Addr} {es:Array (Int×Value)} {ep:Nat} {t:SetTable}
theorem J0 {Q:Bool→Shared→Prop} (hs:mJ (bt w) s.heap S es ep t) (h:Q (bt w&&(!t.plain&&decide (es.size > 1))) s):wpAny (model prog w) A (setDrawn S) Q E s:=by
 obtain ⟨os,hos,exs,hds,hf,tb⟩:=id hs
 unfold setDrawn
 refine wpAny_bind (wpAny_setState_of hos hds hf ?_)
 refine wpAny_bind (ue (wpAny_pure ?_))
 rw [Bool.not_not]
 exact h
theorem MK {Q:Value→Shared→Prop} (hh:A.handled=none) (hs:mJ (bt w) s.heap S es ep t) (hb:es.size < scanBound)
  (h:∀(I:Addr) (h1:Heap) (d:Drawn) (fp:List Addr) (out:List Value) (St:Nat→Heap→Prop),Walks prog w A I fp [I] es.size (fun i v=>out[i]?=some v) St→St 0 h1→out.Perm (es.toList.map (·.2))→(∀b o,s.heap.get? b=some o→h1.get? b=some o)→s.heap.objs.size≤I→
   (∀b∈fp,b=S∨s.heap.objs.size≤b)→Q (.ref I) { s with heap:=h1,drawn:=d }):wpAny (model prog w) A (pyIter (.ref S)) Q E s:=by
 obtain ⟨os,hos,exs,hds,hf,tb⟩:=id hs
 have hT:s.TypeIs (.ref S) "set":=⟨os,hos,exs.1⟩
 have lt:S < s.heap.objs.size:=Heap.lt_size hos
 have hz:t.place.size=es.size:=by
  have:=hf
  simp only [SetTable.fits,Bool.and_eq_true,beq_iff_eq] at this
  exact this.1
 refine wpAny_pyIter_slot hT F.slot_set_iter (wpAny_call_entry F.slot_set_iter hT Ew ?_ (F.args_set_iter_1 _))
 unfold Builtin.«frozenset.__iter__» Builtin.Frozenset.slot0 Builtin.Frozenset.sizeOf
 refine wpAny_bind (wpAny_bind (wpAny_pure (wpAny_pure ?_)))
 refine wpAny_bind (wpAny_bind (wpAny_setEntries_of hos hds hf (wpAny_pure ?_)))
 refine wpAny_bind (J0 hs ?_)
 by_cases hd:(bt w&&(!t.plain&&decide (es.size > 1)))=true
 ·rw [if_pos hd]
  refine wpAny_bind (Br _ _ _ _ (List.length_range ..) fun ps d pp=>?_)
  have pl:ps.length=es.size:=by rw [pp.length_eq,List.length_range]
  unfold newTuple
  refine wpAny_bind (wpAny_newObj_type ?_ (show (List.map (fun i:Nat=>rawInt i) ps).toArray.size≤sizeLine by rw [List.size_toArray,List.length_map,pl,sizeLine_eq]; unfold scanBound at hb; omega))
  have g1:(s.heap.push { cls:=.type "tuple",data:=.seq (ps.map fun k:Nat=>rawInt k).toArray }).get? S=some os:=Heap.get?_push_of_some _ hos
  refine wpAny_bind (wpAny_setEpoch_of (s:={ s with heap:=s.heap.push _,drawn:=d }) g1 hds hf ?_)
  refine wpAny_bind ?_
  unfold newFields
  refine wpAny_newObj_type ?_
  refine wpAny_pure ⟨_,rfl,"set_iterator",_,⟨_,Heap.get?_push_size _ rfl,rfl⟩,fJ.lookup,?_⟩
  have Te:(s.heap.push { cls:=.type "tuple",data:=.seq (ps.map fun k:Nat=>rawInt k).toArray }).objs.size=s.heap.objs.size + 1:=Heap.size_push ..
  refine h _ _ d [_,S,s.heap.objs.size] _ _ (Ex (ep:=ep) (t:=t) hh ?_ ?_ pp) ⟨⟨_,Heap.get?_push_size _ rfl,rfl,rfl⟩,⟨os,Heap.get?_push_of_some _ g1,exs,hds,hf,tb⟩,⟨_,0,Heap.get?_push_of_some _ (Heap.get?_push_size _ rfl),rfl⟩⟩ ?_ (fun b o e=>Heap.get?_push_of_some _ (Heap.get?_push_of_some _ e)) ?_ ?_
  ·rw [Te]
   exact Nat.ne_of_lt (Nat.lt_succ_of_lt lt)
  ·rw [Te]
   exact Nat.ne_of_lt (Nat.lt_succ_self _)
  ·have e2:(List.range es.size).map (fun k=>(es.getD k (0,Value.none)).2)=es.toList.map (·.2):=by
    refine List.ext_getElem (by simp) fun j h1 h2=>?_
    have hj:j < es.size:=by simpa using h1
    simp [Array.getD_eq_getD_getElem?,Array.getElem?_eq_getElem hj]
   rw [←e2]
   exact pp.map _
  ·rw [Te]
   exact Nat.le_succ _
  ·intro b hb'
   simp only [List.mem_cons,List.not_mem_nil,or_false] at hb'
   rcases hb' with rfl | rfl | rfl
   ·right
    rw [Te]
    exact Nat.le_succ _
   ·exact .inl rfl
   ·exact .inr (Nat.le_refl _)
 ·rw [if_neg hd]
  refine wpAny_bind (wpAny_pure ?_)
  refine wpAny_bind (wpAny_setEpoch_of hos hds hf ?_)
  refine wpAny_bind ?_
  unfold newFields
  refine wpAny_newObj_type ?_
  refine wpAny_pure ⟨_,rfl,"set_iterator",_,⟨_,Heap.get?_push_size _ rfl,rfl⟩,fJ.lookup,?_⟩
  have XC:∀b,b∈[s.heap.objs.size,S]→b=S∨s.heap.objs.size≤b:=fun b hb'=>by
   simp only [List.mem_cons,List.not_mem_nil,or_false] at hb'
   rcases hb' with rfl | rfl
   ·exact .inr (Nat.le_refl _)
   ·exact .inl rfl
  cases hbt:bt w with
  | true=>
   rw [hbt] at hd
   have nd:(!t.plain&&decide (es.size > 1))=false:=by simpa using hd
   exact h _ _ s.drawn [_,S] _ _ (JX (ep:=ep) hh (Nat.ne_of_lt lt) hbt nd hz tb.ris) ⟨⟨_,Heap.get?_push_size _ rfl,rfl,rfl⟩,⟨os,Heap.get?_push_of_some _ hos,exs,hds,hf,tb⟩⟩ (.refl _) (fun b o e=>Heap.get?_push_of_some _ e) (Nat.le_refl _) XC
  | false=>
   exact h _ _ s.drawn [_,S] _ _ (JZ (ep:=ep) (t:=t) hh (Nat.ne_of_lt lt) hbt) ⟨⟨_,Heap.get?_push_size _ rfl,rfl,rfl⟩,⟨os,Heap.get?_push_of_some _ hos,exs,hds,hf,tb⟩⟩ ((rC _ es).map _) (fun b o e=>Heap.get?_push_of_some _ e) (Nat.le_refl _) XC
end
end L2
namespace L2
open PySem PySem.Spec PySem.W PyProof.Rows
section
variable {prog:Program} {w:World} {A:Around} {E:Value→Shared→Prop} {s:Shared} {S:Addr} {es:Array (Int×Value)} {ep:Nat} {t:SetTable}
theorem MN {Q:Bool→Shared→Prop} (hT:s.TypeIs (.ref S) "set") (h:Q false s):wpAny (model prog w) A (Builtin.List.listLengthHint (.ref S)) Q E s:=by
 unfold Builtin.List.listLengthHint
 refine wpAny_bind (wpAny_specialOf hT PySem.F.slot_set_len.lookup ?_)
 generalize hid:("set.__len__":String)=nm
 wp_delta
 rw [show splitId nm=some ("set","__len__") by subst hid; decide +kernel]
 subst hid
 refine wpAny_bind (wpAny_isInstance (T:="set") (b:=true) hT (by rw [isSubtype_type]; kernel_rfl) ?_)
 refine wpAny_ite_split (fun z=>absurd z (by decide)) fun _=>wpAny_ite_split (fun _=>?_) fun z=>absurd (by decide +kernel) z
 exact wpAny_bind (wpAny_typeOf hT (wpAny_pure h))
theorem J1 {out:List Value} {acc:Array Value} (h:ItemsOf (fun i v=>out[i]?=some v) acc out.length):acc=out.toArray:=by
 refine Array.ext (by simpa using h.1) fun j h1 h2=>?_
 have this:out[j]?=some acc[j]:=h.2 j acc[j] (Array.getElem?_eq_getElem h1)
 have hj:j < out.length:=by simpa using h2
 rw [List.getElem?_eq_getElem hj] at this
 simpa using (Option.some.inj this).symm
theorem Ey {R:Result→Shared→Prop} (hh:A.handled=none) (hs:mJ (bt w) s.heap S es ep t) (hb:es.size < scanBound) {L:Addr} (ne:L≠S) {c0:Nat} (hL:s.heap.get? L=some { cls:=.type "list",data:=.seq #[] c0 }) (res:Value)
  (hR:∀(h':Heap) (d:Drawn) (tk:Nat) (us:List Value) (c':Nat),us.Perm (es.toList.map (·.2))→(∀b o,b≠L→s.heap.get? b=some o→h'.get? b=some o)→h'.get? L=some { cls:=.type "list",dict:=none,data:=.seq us.toArray c',slots:=#[] }→
   R (.ok (.ret res)) { s with heap:=h',drawn:=d,toks:=tk }):
  wpAny (model prog w) A.in1 (Builtin.List.listExtendWith (.ref L) (.ref S) res) (fun fin s'=>match fin with | .done f=>R (.ok f) s' | .again c'=>c'.quiet=true∧codeAny (model prog w) A c' R s') (fun e s'=>R (.error e) s') s:=by
 obtain ⟨os,hos,exs,hds,hf,tb⟩:=id hs
 have hT:s.TypeIs (.ref S) "set":=⟨os,hos,exs.1⟩
 have ltL:L < s.heap.objs.size:=Heap.lt_size hL
 unfold Builtin.List.listExtendWith
 refine wpAny_bind (wpAny_typeOf hT ?_)
 rw [show (Builtin.List.listSameRef (.ref L) (.ref S) || Value.type "set"==Value.type "list" || Value.type "set"==Value.type "tuple")=false by
  rw [show Builtin.List.listSameRef (.ref L) (.ref S)=false by simp [Builtin.List.listSameRef,ne]]
  decide]
 simp only [Bool.false_eq_true,if_false]
 refine wpAny_bind (MK (A:=A.in1) hh hs hb fun I h1 d fp out St W st pm kp geI okf=>?_)
 have lo:out.length=es.size:=by rw [pm.length_eq,List.length_map,Array.length_toList]
 have iH:L∉fp:=fun z=>(okf L z).elim ne fun z'=>absurd ltL (Nat.not_lt.mpr z')
 have run:∀(h2:Heap) (c1 tk:Nat),St 0 h2→(∀b o,b≠L→s.heap.get? b=some o→h2.get? b=some o)→h2.get? L=some { cls:=.type "list",data:=.seq #[] c1 }→
   codeAny (model prog w) A (.builtin "list.extend.loop" ⟨[.ref L,.ref I,res],[]⟩) R { s with heap:=h2,drawn:=d,toks:=tk }:=fun h2 c1 tk st2 k2 g2=>by
  refine codeAny_extend_loopS W.toS (fits_of_scanBound hb) L iH res es.size 0 _ #[] c1 rfl (Nat.zero_le _) st2 g2 (ItemsOf.nil _) fun s3 acc c3 mv g3 io=>?_
  rw [←lo] at io
  have ea:=J1 io
  subst ea
  rw [Moved.eq_with mv]
  refine hR s3.heap d s3.toks out c3 pm (fun b o nb e=>mv.heap b o (fun z=>?_) (k2 b o nb e)) g3
  rcases List.mem_cons.mp z with z | z
  ·exact nb z
  ·exact absurd (Heap.lt_size e) (by rw [List.mem_singleton.mp z]; exact Nat.not_lt.mpr geI)
 have gL:=kp L _ hL
 have gS:Shared.TypeIs { s with heap:=h1,drawn:=d } (.ref S) "set":=⟨os,kp S _ hos,exs.1⟩
 refine wpAny_bind (wpAny_holding (MN gS ?_))
 refine wpAny_ite_split (fun _=>?_) fun _=>wpAny_pure ⟨plainId_quiet PySem.F.plain_extend_loop _,run h1 c0 s.toks st (fun b o _ e=>kp b o e) gL⟩
 refine wpAny_bind (wpAny_rule (wpAny_bind (show wpAny _ _ (updateSeq L (·.push .none) >>= fun _=>updateSeq L (·.pop)) _ _ _ from ?_)))
 refine wpAny_bind (wpAny_updateSeq gL rfl ?_)
 have u2:=Heap.get?_update_self (Obj.mapSeq (·.push Value.none)) gL rfl
 refine wpAny_updateSeq (hz:=by seq_fits) u2 rfl ?_
 have u3:=Heap.get?_update_self (Obj.mapSeq (·.pop)) u2 rfl
 have far:∀b o,b≠L→h1.get? b=some o→((h1.update L (Obj.mapSeq (·.push Value.none))).update L (Obj.mapSeq (·.pop))).get? b=some o:=fun b o nb e=>
  (Heap.get?_update_other _ _ (Ne.symm nb)).trans ((Heap.get?_update_other _ _ (Ne.symm nb)).trans e)
 exact wpAny_pure ⟨plainId_quiet PySem.F.plain_extend_loop _,run _ _ s.toks (W.frame 0 _ _ st fun b hb' o e=>far b o (fun z=>iH (z ▸ hb')) e) (fun b o nb e=>far b o nb (kp b o e)) u3⟩
theorem Bs {R:List Value→Shared→Prop} (hh:A.handled=none) (hs:mJ (bt w) s.heap S es ep t) (hb:es.size < scanBound)
  (h:∀(h':Heap) (d:Drawn) (tk:Nat) (us:List Value),us.Perm (es.toList.map (·.2))→s.heap.objs.size≤h'.objs.size→(∀b o,s.heap.get? b=some o→h'.get? b=some o)→R us { s with heap:=h',drawn:=d,toks:=tk }):
  wpAny (model prog w) A (collect (.ref S)) R E s:=by
 have ltS:S < s.heap.objs.size:=let ⟨_,e,_⟩:=hs; Heap.lt_size e
 unfold collect
 refine wpAny_bind (wpAny_runValue (codeAny_builtin entry_proto_collect' ?_)); rw [Around.under_plainId PySem.F.plain_proto_collect _]
 show wpAny _ A.in1 (newList [] >>= fun l=>again (.builtin "list.__iadd__" ⟨[l,.ref S],[]⟩)) _ _ s
 refine wpAny_bind (wpAny_newObj_type (wpAny_pure ⟨plainId_quiet PySem.F.plain_list_iadd _,codeAny_builtin entry_list_iadd' ?_⟩)); rw [Around.under_plainId PySem.F.plain_list_iadd _]
 have g0:(s.heap.push { cls:=.type "list",data:=.seq ([]:List Value).toArray }).get? s.heap.objs.size=some { cls:=.type "list",data:=.seq #[] }:=Heap.get?_push_size _ rfl
 show wpAny _ A.in1 (Builtin.List.listExtendWith (.ref s.heap.objs.size) (.ref S) (.ref s.heap.objs.size)) _ _ _
 have key:=Ey (prog:=prog) (A:=A) (s:={ s with heap:=s.heap.push { cls:=.type "list",data:=.seq ([]:List Value).toArray } })
  (R:=fun (q:Result) (s':Shared)=>∃(h':Heap) (d:Drawn) (tk:Nat) (us:List Value) (c':Nat),q=.ok (.ret (.ref s.heap.objs.size))∧s'={ s with heap:=h',drawn:=d,toks:=tk }∧us.Perm (es.toList.map (·.2))∧(∀b o,s.heap.get? b=some o→h'.get? b=some o)∧h'.get? s.heap.objs.size=some { cls:=.type "list",dict:=none,data:=.seq us.toArray c',slots:=#[] })
  hh (hs.at fun o e=>Heap.get?_push_of_some _ e) hb (Nat.ne_of_gt ltS) g0 (.ref s.heap.objs.size) (fun h' d tk us c' pm kk g=>⟨h',d,tk,us,c',rfl,rfl,pm,fun b o e=>kk b o (Nat.ne_of_lt (Heap.lt_size e)) (Heap.get?_push_of_some _ e),g⟩)
 refine wpAny_mono key (fun fin s' x=>?_) fun e s' x=>?_
 ·cases fin with
  | done f=>
   obtain ⟨h',d,tk,us,c',e,rfl,pm,kk,g⟩:=x
   cases e
   show wpAny _ A (load s.heap.objs.size >>= _) _ _ _
   exact wpAny_bind (wpAny_load g (wpAny_pure (h h' d tk us pm (Nat.le_of_lt (Heap.lt_size g)) kk)))
  | again c1=>
   refine ⟨x.1,codeAny_mono x.2 fun q s2 y=>?_⟩
   obtain ⟨h',d,tk,us,c',rfl,rfl,pm,kk,g⟩:=y
   show wpAny _ A (load s.heap.objs.size >>= _) _ _ _
   exact wpAny_bind (wpAny_load g (wpAny_pure (h h' d tk us pm (Nat.le_of_lt (Heap.lt_size g)) kk)))
 ·obtain ⟨_,_,_,_,_,e',_⟩:=x
  cases e'
end
end L2
namespace L2
open PySem PySem.Spec PySem.W PyProof.Rows
section
variable {prog:Program} {w:World} {A:Around} {E:Value→Shared→Prop} {s:Shared} {S:Addr} {es:Array (Int×Value)} {ep:Nat} {t:SetTable}
theorem uP {Ok:List Value→Prop} {Q:Value→Shared→Prop} (hh:A.handled=none) (hs:mJ (bt w) s.heap S es ep t) (few:es.size < 64)
  (srt:∀us:List Value,us.Perm (es.toList.map (·.2))→∀(B:Around) (s1:Shared) (a:Addr) (n:Nat) (P:Fin→Shared→Prop) (E':Value→Shared→Prop),s1.heap.get? a=some (seqObj "list" us.toArray n)→
   (∀out:Array Value,Ok out.toList→P (.done (.ret .none)) { s1 with heap:=sortedHeap s1.heap a us out })→wpAny (model prog w) B (Builtin.«list.sort» ⟨[.ref a],[]⟩) P E' s1)
  (h:∀(D:Addr) (h':Heap) (d:Drawn) (tk c:Nat) (out:Array Value),Ok out.toList→s.heap.objs.size≤D→(∀b o,s.heap.get? b=some o→h'.get? b=some o)→h'.get? D=some (seqObj "list" out c)→Q (.ref D) { s with heap:=h',drawn:=d,toks:=tk }):
  wpAny (model prog w) A (call (.builtin "sorted") [.ref S]) Q E s:=by
 refine Calls.call_function_entry kind_sorted plain_sorted entry_sorted (args_sorted1 _) ?_
 unfold Builtin.«sorted»
 refine wpAny_bind (m:=checkCount "sorted" 1 1 _) (wpAny_pure (wpAny_bind (Bs (A:=A.in1) hh hs (by unfold scanBound; omega) fun h1 d tk us pm ge kk=>?_)))
 have lu:us.length=es.size:=by rw [pm.length_eq,List.length_map,Array.length_toList]
 refine wpAny_bind (wpAny_newList ?_ (by rw [sizeLine_eq]; omega))
 have gL:(h1.push (seqObj "list" us.toArray 0)).get? h1.objs.size=some (seqObj "list" us.toArray 0):=Heap.get?_push_size _ rfl
 refine wpAny_bind (wpAny_holding (wpAny_call_entry slot_list_sort ⟨_,gL,rfl⟩ entry_list_sort (srt us pm _ { s with heap:=h1.push (seqObj "list" us.toArray 0),drawn:=d,toks:=tk } _ 0 _ _ gL fun out ok=>⟨_,rfl,?_⟩) (args_list_sort _)))
 obtain ⟨c,gD⟩:=sortedHeap_at (out:=out) gL
 refine wpAny_pure ⟨_,rfl,h h1.objs.size _ d tk c out ok ge (fun b o e=>?_) gD⟩
 have lb:b < h1.objs.size:=Heap.lt_size (kk b o e)
 show (sortedHeap (h1.push (seqObj "list" us.toArray 0)) h1.objs.size us out).get? b=some o
 rw [sortedHeap_old (Nat.ne_of_lt lb) (by rw [Heap.size_push]; exact Nat.lt_succ_of_lt lb)]
 exact Heap.get?_push_of_some _ (kk b o e)
end
end L2
namespace L2
open PySem PySem.Spec PySem.W PyProof.Rows
theorem Inv.drew {X:Cx} {pins:List (Addr×Obj)} {σ:St} {H:Hp} {s:Shared} (d:Drawn) (I:Inv X pins σ H s):Inv X pins σ H { s with drawn:=d }:=
 I.call (g':=s.gens) (t':=s.toks) (d':=d) (ch:=[]) (Un.kept fun _ _ e=>e) (I.hok.kept fun _ _ e=>e) I.bare (fun _ z=>nomatch z)
theorem uQ {α:Type} (l:List α) (d:α):(List.range l.length).map (fun i=>l.getD i d)=l:=by
 refine List.ext_getElem (by simp) fun i h1 h2=>?_
 simp [h2]
section
variable {X:Cx} {T:Type} [DecidableEq T] {knd:PySem.KeyKind X.prog X.w T} {l:Expr} {tl:TE} {p1 p2 pos1 pos2:Pos}
theorem MP (mk:T→V) (dflt:T) (hk:∀k v,RelV (mk k) v→knd.is k v=true∧v.scannable=true) (hc:X.calm=true) (hl:PE X l tl) (g2:Gl X "set") (m2:X.mg "set"=none) {pins:List (Addr×Obj)} {s:Shared} {σ:St} {H:Hp} {R:List T→Hp→Prop} (I:Inv X pins σ H s)
  (h:tl σ H fun x H1=>∃(a:Addr) (ns:List T),[x]=[V.ref a]∧cO X.K H1 a (ns.map mk)∧ns.length < 64∧R ns H1) (he:starEach [l] X.env=(false,eval l X.env)::starEach [] X.env:=by rfl) (hpl:(backTo pos2 (starEach [] X.env)).any (·.1)=false:=by rfl):
  wpAny (model X.prog X.w) X.A (eval (.Call (.Name "set" p2) [l] [] pos2) X.env) (fun v s'=>∃(S:Addr) (ns:List T) (H1:Hp),v=.ref S∧Inv X pins σ H1 s'∧je knd s'.heap S (dedup ns)∧ns.length < 64∧R ns H1) X.xe s:=by
 refine wpAny_Call_Name_kw (jy I g2 m2 (u:=.type "set") rfl ?_)
 refine PyProof.Rows.callWith_type1 (cU (dX hl jA he pos2 pins s σ H (fun vs H1=>∃(a:Addr) (ns:List T),vs=[V.ref a]∧cO X.K H1 a (ns.map mk)∧ns.length < 64∧R ns H1) I h) fun us s1 aV=>?_) he hpl
 obtain ⟨vs,H1,I1,r1,q1⟩:=aV
 obtain ⟨a,ns,rfl,ha,h64,q⟩:=q1
 obtain ⟨u,rfl,ru⟩:=vals1 r1
 cases ru
 obtain ⟨its,rv,pl,_⟩:=I1.list ha
 have ln:its.length=ns.length:=by rw [←rv.length,List.length_map]
 have at':∀i v,its.toArray[i]?=some v→knd.is (ns.getD i dflt) v=true∧v.scannable=true:=fun i v e=>by
  rw [List.getElem?_toArray] at e
  have hi:i < its.length:=(List.getElem?_eq_some_iff.mp e).1
  have r:=Vals.get (i:=i) (x:=mk (ns.getD i dflt)) rv (by simp [List.getElem?_map,List.getElem?_eq_getElem (ln ▸ hi),List.getD])
  obtain ⟨v',e',r'⟩:=r
  rw [e] at e'
  cases e'
  exact hk _ _ r'
 refine JT (knd:=knd) (val:=fun i=>ns.getD i dflt) (I1.ok.hd hc) pl.isList at' (by rw [List.size_toArray,ln]; unfold scanBound; omega) fun h' tk hS kk=>?_
 have e0:(List.range its.toArray.size).map (fun i=>ns.getD i dflt)=ns:=by rw [show its.toArray.size=ns.length from (List.size_toArray ..).trans ln,uQ]
 rw [e0] at hS
 exact ⟨_,ns,H1,rfl,I1.kept kk,hS,h64,q⟩
end
section
variable {prog:Program} {w:World}
theorem Bt {es:List (Int×Value)} {ks:List Str} (h:wV (PySem.strKind prog w) es ks):(es.map (·.2)).map strOf=ks∧∀v,v∈es.map (·.2)→∃x t,v=.str x t:=by
 induction h with
 | nil=>exact ⟨rfl,fun v hv=>by cases hv⟩
 | @cons e k es ks a _ ih=>
  obtain ⟨t,ht⟩:=Value.isStrOf_shape (show Value.isStrOf k e.2=true from a.1)
  refine ⟨by rw [List.map_cons,List.map_cons,ih.1,ht]; rfl,fun v hv=>?_⟩
  rcases List.mem_cons.mp hv with rfl | hv
  ·exact ⟨k,t,ht⟩
  ·exact ih.2 v hv
end
noncomputable def XD (K:PySem.W.Frag) (tl:TE):TE:=fun σ H Q=>tl σ H fun x H1=>∃(a:Addr) (ns:List Str),[x]=[V.ref a]∧cO K H1 a (ns.map V.str)∧ns.length < 64∧∀(D:Addr) (ns':List Str),H1 D=none→ns'.Perm (dedup ns)→sortedS ns'=true→Q (.ref D) (upd H1 D (.lst (ns'.map V.str)))
section
variable {X:Cx} {l:Expr} {tl:TE} {p1 p2 pos1 pos2:Pos}
theorem Bu (hc:X.calm=true) (hl:PE X l tl) (g1:Gl X "sorted") (m1:X.mg "sorted"=none) (g2:Gl X "set") (m2:X.mg "set"=none)
  (he:starEach [.Call (.Name "set" p2) [l] [] pos2] X.env=(false,eval (.Call (.Name "set" p2) [l] [] pos2) X.env)::starEach [] X.env:=by rfl) (hpl:(backTo pos1 (starEach [] X.env)).any (·.1)=false:=by rfl)
  (he2:starEach [l] X.env=(false,eval l X.env)::starEach [] X.env:=by rfl) (Vo:(backTo pos2 (starEach [] X.env)).any (·.1)=false:=by rfl):
  PE X (.Call (.Name "sorted" p1) [.Call (.Name "set" p2) [l] [] pos2] [] pos1) (XD X.K tl):=by
 intro pins s σ H Q I h
 refine wpAny_Call_Name_kw (jy I g1 m1 (u:=.builtin "sorted") rfl ?_)
 refine PyProof.Rows.callWith_builtin1 ?_ he hpl
 rw [he]
 show wpAny _ _ (spliced ((false,eval (.Call (.Name "set" p2) [l] [] pos2) X.env)::backTo pos1 (starEach [] X.env))) _ _ s
 refine Calls.spliced_cons (cU (MP (knd:=PySem.strKind X.prog X.w) V.str ⟨#[]⟩ (fun k v r=>?_) hc hl g2 m2 I h he2 Vo) fun v s1 ⟨S,ns,H1,e,I1,hS,h64,q⟩=>Calls.spliced_nil ?_)
 ·obtain ⟨t,rfl⟩:=r
  exact ⟨PySem.strKind_is _ _ _ _,rfl⟩
 subst e
 obtain ⟨o,es,ep,t,ho,ex,hd,⟨ks',ek,pk⟩,hb,hf,tb⟩:=hS
 obtain ⟨e1,e2⟩:=Bt ek
 have few:es.size < 64:=by
  have:=iK ns
  rw [←Array.length_toList,ek.len,pk.length_eq]
  omega
 refine uP (Ok:=fun out=>∃ns',StrsAre out ns'∧ns'.Perm (dedup ns)∧sortedS ns'=true) (I1.ok.hd hc) ⟨o,ho,ex,hd,hf,tb⟩ few (fun us pm B s2 a n P E' ho' hp=>?_) fun D h' d tk c out ok ge kk gD=>?_
 ·have hS:StrsAre us (us.map strOf):=strsAre_map us fun v hv=>e2 v (pm.mem_iff.mp hv)
  refine list_sort_treeK strKind_oneLt ho' hS.keysOf (fun v1 v2 rest e=>keyKind_strs (by rw [←e]; exact hS)) (by rw [pm.length_eq,List.length_map,Array.length_toList]; exact few) fun st hp1 hp2=>?_
  obtain ⟨ss',b1,b2,b3⟩:=sorted_out_str hS hp1 hp2
  exact hp _ ⟨ss',b1,b2.trans ((pm.map strOf).trans (by rw [e1]; exact pk)),b3⟩
 ·obtain ⟨ns',a1,a2,a3⟩:=ok
  have hz:ns'.length≤sizeLine:=by
   have:=iK ns
   rw [a2.length_eq,sizeLine_eq]
   omega
  exact ⟨.ref D,_,(I1.laid (o:=.lst (ns'.map V.str)) (t':=tk) kk ge ⟨by rw [List.length_map]; exact hz,out.toList,c,nG a1,by simpa [seqObj] using gD⟩).drew d,rfl,q D ns' (I1.hok.fresh ge) a2 a3⟩
end
end L2
namespace L2
open PySem PySem.Spec PySem.W PyProof.Rows
section
variable {prog:Program} {w:World} {A:Around} {E:Value→Shared→Prop} {s:Shared} {R:Result→Shared→Prop} {I S:Addr} {fp wr:List Addr} {n:Nat} {Pv:Nat→Value→Prop} {St:Nat→Heap→Prop} {bt:Nat→Nat→Bool}
noncomputable def XF (v:Value) (c:Nat):Obj:={ cls:=.type "list",dict:=none,data:=.seq #[v,v] c,slots:=#[] }
theorem QG (W:Walks prog w A.in1 I fp wr n Pv St) (cmp:CmpOf prog w A.in1 .Gt Pv bt) (out:S∉fp) (kw:List (Str×Value)):∀(m j:Nat) (s:Shared) (vb:Value) (c:Nat),n - (j + 1)=m→j + 1≤n→St (j + 1) s.heap→Pv (argBest bt j) vb→s.heap.get? S=some (XF vb c)→
  (∀v h' tk,Pv (argBest bt (n - 1)) v→(∀b o,b∉wr→b≠S→s.heap.get? b=some o→h'.get? b=some o)→R (.ok (.ret v)) { s with heap:=h',toks:=tk })→codeAny (model prog w) A (.builtin "max.loop" ⟨[.ref I,.none,.ref S],kw⟩) R s:=by
 have Eu:S∉wr:=fun z=>out (W.sub _ z)
 have nm:(toString "max"++toString ".loop":String)="max.loop":=by decide
 intro m
 induction m with
 | zero=>
  intro j s vb c hm hj st pb hS hR
  have last:j + 1=n:=by omega
  refine codeAny_builtin PySem.F.entry_max_loop ?_; rw [Around.under_plainId PySem.F.plain_max_loop _]
  show wpAny _ A.in1 (seqItems? (.ref S) >>= _) _ _ s; refine wpAny_bind (wpAny_seqItems hS rfl ?_)
  show wpAny _ A.in1 (tryCatch (pyNext (.ref I)) _ >>= _) _ _ s; refine wpAny_bind (wpAny_tryCatch (W.done s _ _ (last ▸ st) fun h' tk kk=>?_))
  have g:=kk S _ Eu hS
  show wpAny _ A.in1 (updateSeq S (fun _=>#[]) >>= _) _ _ _; refine wpAny_bind (wpAny_updateSeq g rfl (wpAny_bind (wpAny_letGo (wpAny_pure ?_))))
  exact hR vb _ tk (by rw [←last]; exact pb) fun b o hb hbS e=>(Heap.get?_update_other _ _ (Ne.symm hbS)).trans (kk b o hb e)
 | succ m ih=>
  intro j s vb c hm hj st pb hS hR
  have lt:j + 1 < n:=by omega
  refine codeAny_builtin PySem.F.entry_max_loop ?_; rw [Around.under_plainId PySem.F.plain_max_loop _]
  show wpAny _ A.in1 (seqItems? (.ref S) >>= _) _ _ s; refine wpAny_bind (wpAny_seqItems hS rfl ?_)
  show wpAny _ A.in1 (tryCatch (pyNext (.ref I)) _ >>= _) _ _ s; refine wpAny_bind (wpAny_tryCatch (W.item (j + 1) s _ _ lt st fun v h' tk pv st' kk=>?_))
  have g:=kk S _ Eu hS
  show wpAny _ A.in1 (tryCatch (holding [v,v] (richCompare .Gt v vb >>= _)) _ >>= _) _ _ _; refine wpAny_bind (wpAny_tryCatch (wpAny_holding (wpAny_bind (cmp (j + 1) (argBest bt j) v vb _ _ _ pv pb ?_))))
  refine wpAny_bind (wpAny_holding (wpAny_truthy_bool (wpAny_bind (wpAny_letGo (wpAny_pure ?_)))))
  cases hb:bt (j + 1) (argBest bt j) with
  | true=>
   simp only [if_true]
   refine wpAny_bind (wpAny_updateSeq g rfl (wpAny_bind (wpAny_letGo ?_))); rw [nm]
   refine wpAny_pure ⟨plainId_quiet PySem.F.plain_max_loop _,ih (j + 1) _ v _ (by omega) lt (W.frame _ _ _ st' fun b hbf o e=>(Heap.get?_update_other _ _ fun z:S=b=>out (z ▸ hbf)).trans e) (by simp only [argBest,hb,if_true]; exact pv) (Heap.get?_update_self _ g rfl) fun v' h2 tk2 XH Td=>?_⟩
   exact hR v' h2 tk2 XH fun b o hb' hbS e=>Td b o hb' hbS ((Heap.get?_update_other _ _ (Ne.symm hbS)).trans (kk b o hb' e))
  | false=>
   simp only [Bool.false_eq_true,if_false]
   refine wpAny_bind (wpAny_letGo ?_); rw [nm]
   refine wpAny_pure ⟨plainId_quiet PySem.F.plain_max_loop _,ih (j + 1) _ vb c (by omega) lt st' (by simp only [argBest,hb,Bool.false_eq_true,if_false]; exact pb) g fun v' h2 tk2 XH Td=>?_⟩
   exact hR v' h2 tk2 XH fun b o hb' hbS e=>Td b o hb' hbS (kk b o hb' e)
theorem QH (W:Walks prog w A.in1 I fp wr n Pv St) (cmp:CmpOf prog w A.in1 .Gt Pv bt) (out:S∉fp) {k:Str} {d:Value} {c:Nat} (st:St 0 s.heap) (hS:s.heap.get? S=some { cls:=.type "list",dict:=none,data:=.seq #[] c,slots:=#[] })
  (hR:∀v h' tk,(if n=0 then v=d else Pv (argBest bt (n - 1)) v)→(∀b o,b∉wr→b≠S→s.heap.get? b=some o→h'.get? b=some o)→R (.ok (.ret v)) { s with heap:=h',toks:=tk }):codeAny (model prog w) A (.builtin "max.loop" ⟨[.ref I,.none,.ref S],[(k,d)]⟩) R s:=by
 have Eu:S∉wr:=fun z=>out (W.sub _ z)
 have nm:(toString "max"++toString ".loop":String)="max.loop":=by decide
 refine codeAny_builtin PySem.F.entry_max_loop ?_; rw [Around.under_plainId PySem.F.plain_max_loop _]
 show wpAny _ A.in1 (seqItems? (.ref S) >>= _) _ _ s; refine wpAny_bind (wpAny_seqItems hS rfl ?_)
 by_cases h0:n=0
 ·show wpAny _ A.in1 (tryCatch (pyNext (.ref I)) _ >>= _) _ _ s; refine wpAny_bind (wpAny_tryCatch (W.done s _ _ (h0 ▸ st) fun h' tk kk=>?_))
  show wpAny _ A.in1 (rule _ >>= fun _=>ret d) _ _ _
  exact wpAny_bind (wpAny_rule (wpAny_pure (hR d h' tk (by rw [if_pos h0]) fun b o hb _ e=>kk b o hb e)))
 ·show wpAny _ A.in1 (tryCatch (pyNext (.ref I)) _ >>= _) _ _ s; refine wpAny_bind (wpAny_tryCatch (W.item 0 s _ _ (by omega) st fun v h' tk pv st' kk=>?_))
  have g:=kk S _ Eu hS
  show wpAny _ A.in1 (updateSeq S (fun _=>#[v,v]) >>= _) _ _ _; refine wpAny_bind (wpAny_updateSeq g rfl ?_); rw [nm]
  refine wpAny_pure ⟨plainId_quiet PySem.F.plain_max_loop _,QG W cmp out _ _ 0 _ v _ rfl (by omega) (W.frame _ _ _ st' fun b hbf o e=>(Heap.get?_update_other _ _ fun z:S=b=>out (z ▸ hbf)).trans e) pv (Heap.get?_update_self _ g rfl) fun v' h2 tk2 XH Td=>?_⟩
  exact hR v' h2 tk2 (by rw [if_neg h0]; exact XH) fun b o hb' hbS e=>Td b o hb' hbS ((Heap.get?_update_other _ _ (Ne.symm hbS)).trans (kk b o hb' e))
end
end L2
namespace L2
open PySem PySem.Spec PySem.W PyProof.Rows
section
variable {prog:Program} {w:World} {A:Around} {E:Value→Shared→Prop} {s:Shared}
theorem J2 (a d:Value):argsOk "max" ⟨[a],[("default",d)]⟩:=by unfold argsOk; kernel_rfl
noncomputable def maxD (d:Int):List Int→Int
 | []=>d
 | n::ns=>ns.foldl max n
theorem Bv (val:Nat→Int):∀k,val (argBest (fun i j=>decide (val i > val j)) k)=((List.range k).map fun i=>val (i + 1)).foldl max (val 0)
 | 0=>rfl
 | k + 1=>by
  rw [List.range_succ,List.map_append,List.foldl_append,←Bv val k]
  rw [show argBest (fun i j=>decide (val i > val j)) (k + 1)=if decide (val (k + 1) > val (argBest (fun i j=>decide (val i > val j)) k)) then k + 1 else argBest (fun i j=>decide (val i > val j)) k from rfl]
  by_cases h:val (k + 1) > val (argBest (fun i j=>decide (val i > val j)) k)
  ·rw [if_pos (decide_eq_true h)]
   show val (k + 1)=max _ (val (k + 1))
   omega
  ·rw [if_neg (by simpa using h)]
   show _=max _ (val (k + 1))
   omega
theorem Hs (ns:List Int) (h:0 < ns.length) (d:Int):ns.getD (argBest (fun i j=>decide (ns.getD i 0 > ns.getD j 0)) (ns.length - 1)) 0=maxD d ns:=by
 have:=Bv (fun i=>ns.getD i 0) (ns.length - 1)
 rw [show ns.getD (argBest (fun i j=>decide (ns.getD i 0 > ns.getD j 0)) (ns.length - 1)) 0=_ from this]
 cases ns with
 | nil=>cases h
 | cons a as=>
  show _=as.foldl max a
  have e:(List.range ((a::as).length - 1)).map (fun i=>(a::as).getD (i + 1) 0)=as:=by
   rw [List.length_cons,Nat.add_sub_cancel]
   refine List.ext_getElem (by simp) fun i h1 h2=>?_
   simp [h2]
  rw [e]
  rfl
theorem zx {id:String} {b:Builtin} {as:List Value} {kw:List (Str×Value)} {Q:Value→Shared→Prop} (hk:builtinKind id=none) (hp:plainId id=true) (hb:entryFor table id=some b) (ha:argsOk id ⟨as,kw⟩)
  (hc:wpAny (model prog w) A.in1 (b ⟨as,kw⟩) (fun fin s'=>match fin with
   | .done f=>(match (Except.ok f:Result) with | .ok (.ret v)=>Q v s' | .ok _=>False | .error e=>E e s')
   | .again c'=>c'.quiet=true∧codeAny (model prog w) A c' (fun r s'=>match r with | .ok (.ret v)=>Q v s' | .ok _=>False | .error e=>E e s') s') E s):wpAny (model prog w) A (call (.builtin id) as kw) Q E s:=by
 refine wpAny_call (codeAny_call_builtin hp hb ?_)
 simp only [checkBuiltinCall,hk]
 cases hg:Manifest.signature? id with
 | none=>exact wpAny_pure hc
 | some sg=>
  simp only [argsOk,hg] at ha
  show wpAny _ A.in1 (Bind.checkArgs id sg ⟨as,kw⟩) _ _ s
  rw [show Bind.checkArgs id sg ⟨as,kw⟩=pure () from ha]
  exact wpAny_pure hc
theorem J3 {l:Addr} {its:List Value} {ns:List Int} {d:Value} {Q:Value→Shared→Prop} (hh:A.handled=none) (hl:s.heap.IsList l its.toArray) (hi:IntsAre its ns)
  (h:∀(v:Value) (h':Heap) (tk:Nat),(if ns=[] then v=d else ∃t,v=Value.int (maxD 0 ns) t)→(∀b o,s.heap.get? b=some o→h'.get? b=some o)→Q v { s with heap:=h',toks:=tk }):wpAny (model prog w) A (call (.builtin "max") [.ref l] [("default",d)]) Q E s:=by
 have nm:(toString "max"++toString ".loop":String)="max.loop":=by decide
 have ln:its.length=ns.length:=hi.length
 have Tg:l < s.heap.objs.size:=by obtain ⟨o,ho,_⟩:=hl; exact Heap.lt_size ho
 refine zx PySem.F.kind_max PySem.F.plain_max PySem.F.entry_max (J2 _ _) ?_
 show wpAny _ A.in1 (Builtin.Builtins.bindParams "max" ["key","default"] 0 ⟨[],[("default",d)]⟩ >>= _) _ _ s
 refine wpAny_bind (wpAny_of_eq (show Builtin.Builtins.bindParams "max" ["key","default"] 0 ⟨[],[("default",d)]⟩=pure [none,some d] from rfl) (wpAny_bind (wpAny_pure ?_)))
 refine wpAny_bind (wpAny_pyIter_list hl (wpAny_bind (wpAny_newObj_type ?_)))
 rw [nm]
 have Te:(s.heap.push { cls:=.type "list_iterator",data:=.fields #[.ref l,.int 0 0] }).objs.size=s.heap.objs.size + 1:=Heap.size_push ..
 have W:=Walks.list (prog:=prog) (w:=w) (A:=A.in1) (by simp [hh]) s.heap.objs.size l (Nat.ne_of_lt Tg) its.toArray
 have val:∀(i:Nat) (v:Value),its.toArray[i]?=some v→∃t,v=Value.int (ns.getD i 0) t:=fun i v hv=>IntsAre.int_at hi i v (by simpa using hv)
 refine wpAny_pure ⟨plainId_quiet PySem.F.plain_max_loop _,?_⟩
 show codeAny (model prog w) A (.builtin "max.loop" ⟨[.ref s.heap.objs.size,.none,.ref (s.heap.push { cls:=.type "list_iterator",data:=.fields #[.ref l,.int 0 0] }).objs.size],[("default",d)]⟩) _ { s with heap:=(s.heap.push { cls:=.type "list_iterator",data:=.fields #[.ref l,.int 0 0] }).push { cls:=.type "list",data:=.seq #[] } }
 refine QH W (CmpOf.ints_gt (fun i=>ns.getD i 0) val) ?_ ⟨⟨_,Heap.get?_push_of_some _ (Heap.get?_push_size _ rfl),rfl,rfl⟩,(hl.push _).push _⟩ (Heap.get?_push_size _ rfl) fun v h' tk hv kk=>?_
 ·rw [Te]
  simp only [List.mem_cons,List.not_mem_nil,or_false,not_or]
  exact ⟨Nat.ne_of_gt (Nat.lt_succ_self _),Nat.ne_of_gt (Nat.lt_succ_of_lt Tg)⟩
 ·refine h v h' tk ?_ fun b o e=>kk b o ?_ ?_ (Heap.get?_push_of_some _ (Heap.get?_push_of_some _ e))
  ·by_cases hn:ns=[]
   ·rw [if_pos hn]
    rw [if_pos (by rw [List.size_toArray,ln,hn]; rfl)] at hv
    exact hv
   ·rw [if_neg hn]
    have pos:0 < ns.length:=List.length_pos_iff.mpr hn
    rw [if_neg (by rw [List.size_toArray,ln]; omega),List.size_toArray,ln] at hv
    obtain ⟨t,e⟩:=val _ v hv
    rw [Hs ns pos 0] at e
    exact ⟨t,e⟩
  ·simp only [List.mem_cons,List.not_mem_nil,or_false]
   exact Nat.ne_of_lt (Heap.lt_size e)
  ·rw [Te]
   exact Nat.ne_of_lt (Nat.lt_succ_of_lt (Heap.lt_size e))
end
noncomputable def XJ (K:PySem.W.Frag) (tl td:TE):TE:=fun σ H Q=>tl σ H fun x H1=>td σ H1 fun y H2=>∃(a:Addr) (ns:List Int) (k:Int),x=.ref a∧y=.int k∧cO K H2 a (ns.map V.int)∧Q (.int (maxD k ns)) H2
section
variable {X:Cx} {l de:Expr} {tl td:TE} {p pos kp:Pos}
theorem QJ (hc:X.calm=true) (hl:PE X l tl) (hd:PE X de td) (hg:Gl X "max") (hm:X.mg "max"=none) (he:starEach [l] X.env=(false,eval l X.env)::starEach [] X.env:=by rfl):PE X (.Call (.Name "max" p) [l] [⟨some "default",de,kp⟩] pos) (XJ X.K tl td):=by
 intro pins s σ H Q I h
 refine wpAny_Call_Name_kw (jy I hg hm (u:=.builtin "max") rfl ?_)
 have he2:backTo pos (starEach [l] X.env)=(false,eval l X.env)::backTo pos (starEach [] X.env):=by rw [he]; rfl
 refine callWith_kw (e:=l) (rest:=[]) ?_ (he:=he2) (hplain:=by rw [he2]; rfl)
 show wpAny _ _ (spliced (backTo pos (starEach [l] X.env))) _ _ s
 rw [he]
 show wpAny _ _ (spliced ((false,eval l X.env)::backTo pos (starEach [] X.env))) _ _ s
 refine Calls.spliced_cons (cU (hl pins s σ H _ I h) fun v s1 ⟨x,H1,I1,r1,q1⟩=>Calls.spliced_nil ?_)
 refine kws_cons (cU (hd pins s1 σ H1 _ I1 q1) fun u s2 ⟨y,H2,I2,r2,a,ns,k,ex,ey,ha,q2⟩=>kws_nil ?_)
 subst ex ey
 cases r1
 obtain ⟨t,rfl⟩:=r2
 obtain ⟨its,rv,pl,_⟩:=I2.list ha
 refine J3 (I2.ok.hd hc) pl.isList (intsAre_of rv) fun v h' tk hv kk=>⟨.int (maxD k ns),H2,I2.kept kk,?_,q2⟩
 by_cases hn:ns=[]
 ·rw [if_pos hn] at hv
  rw [hn,hv]
  exact ⟨t,rfl⟩
 ·rw [if_neg hn] at hv
  obtain ⟨t',e⟩:=hv
  rw [e]
  cases ns with
  | nil=>exact absurd rfl hn
  | cons n ns=>exact ⟨t',rfl⟩
end
end L2
namespace L2
open PySem PySem.Spec PyProof.Rows PySem.W
noncomputable def d7:PyData→Option Key
 | .int i=>some (.inl i)
 | .str x=>some (.inr x)
 | _=>none
noncomputable def keysOf:List PyData→Option (List Key)
 | []=>some []
 | d::r=>match d7 d,keysOf r with
  | some k,some t=>some (k::t)
  | _,_=>none
noncomputable def cW:PyData→Option (List Key)
 | .tuple ds=>keysOf ds
 | _=>none
noncomputable def cF {κ:Type} (f:PyData→Option κ):List (PyData×PyData)→Option (List κ)
 | []=>some []
 | p::r=>match f p.1,cF f r with
  | some k,some t=>some (k::t)
  | _,_=>none
noncomputable def Th (H:Hp) (a:Addr) (kvs:List (PyData×PyData)) (vs:List V):Prop:=
 (∃ks,cF d7 kvs=some ks∧H a=some (.dK (ks.zip vs)))∨∃ks,(kvs≠[]∧cF cW kvs=some ks)∧H a=some (.dT (ks.zip vs))
mutual
noncomputable def RZ (H:Hp):PyData→V→Prop
 | .none,v=>v=.non
 | .bool b,v=>v=.bl b
 | .int i,v=>v=.int i
 | .str x,v=>v=.str x
 | .list ds,v=>∃a vs,v=.ref a∧H a=some (.lst vs)∧d8 H ds vs
 | .tuple ds,v=>∃a vs,v=.ref a∧H a=some (.tup vs)∧d8 H ds vs
 | .dict kvs,v=>∃a vs,v=.ref a∧Th H a kvs vs∧pN H kvs vs
noncomputable def d8 (H:Hp):List PyData→List V→Prop
 | [],vs=>vs=[]
 | d::ds,vs=>∃v r,vs=v::r∧RZ H d v∧d8 H ds r
noncomputable def pN (H:Hp):List (PyData×PyData)→List V→Prop
 | [],vs=>vs=[]
 | p::r,vs=>∃v t,vs=v::t∧RZp H p v∧pN H r t
noncomputable def RZp (H:Hp):PyData×PyData→V→Prop
 | (_,d),v=>RZ H d v
end
theorem Th.same {H H':Hp} (s:aU H H') {a:Addr} {kvs:List (PyData×PyData)} {vs:List V} (h:Th H a kvs vs):Th H' a kvs vs:=by
 rcases h with ⟨ks,e,h⟩ | ⟨ks,e,h⟩
 ·exact .inl ⟨ks,e,s _ _ h⟩
 ·exact .inr ⟨ks,e,s _ _ h⟩
mutual
theorem RZ.same {H H':Hp} (s:aU H H'):∀{d:PyData} {v:V},RZ H d v→RZ H' d v
 | .none,_,h=>h
 | .bool _,_,h=>h
 | .int _,_,h=>h
 | .str _,_,h=>h
 | .list ds,_,h=>by
  obtain ⟨a,vs,e,q,r⟩:=h
  exact ⟨a,vs,e,s _ _ q,d8.same s r⟩
 | .tuple ds,_,h=>by
  obtain ⟨a,vs,e,q,r⟩:=h
  exact ⟨a,vs,e,s _ _ q,d8.same s r⟩
 | .dict kvs,_,h=>by
  obtain ⟨a,vs,e,q,r⟩:=h
  exact ⟨a,vs,e,q.same s,pN.same s r⟩
theorem d8.same {H H':Hp} (s:aU H H'):∀{ds:List PyData} {vs:List V},d8 H ds vs→d8 H' ds vs
 | [],_,h=>h
 | d::ds,vs,h=>by
  obtain ⟨v,r,e,q,t⟩:=h
  exact ⟨v,r,e,RZ.same s q,d8.same s t⟩
theorem pN.same {H H':Hp} (s:aU H H'):∀{kvs:List (PyData×PyData)} {vs:List V},pN H kvs vs→pN H' kvs vs
 | [],_,h=>h
 | (k,d)::ds,vs,h=>by
  obtain ⟨v,r,e,q,t⟩:=h
  exact ⟨v,r,e,RZ.same s q,pN.same s t⟩
end
theorem bL {H:Hp}:∀{ds:List PyData} {vs:List V},d8 H ds vs→vs.length=ds.length
 | [],_,h=>by cases (show _=[] from h); rfl
 | e::ds,vs,h=>by
  obtain ⟨u,r,e1,q,s⟩:=h
  subst e1
  rw [List.length_cons,List.length_cons,bL s]
theorem uf {H:Hp}:∀{ds:List (PyData×PyData)} {vs:List V},pN H ds vs→vs.length=ds.length
 | [],_,h=>by cases (show _=[] from h); rfl
 | e::ds,vs,h=>by
  obtain ⟨u,r,e1,q,s⟩:=h
  subst e1
  rw [List.length_cons,List.length_cons,uf s]
theorem j6 {H:Hp}:∀{ds:List PyData} {vs:List V} {i:Nat} {d:PyData},d8 H ds vs→ds[i]?=some d→∃v,vs[i]?=some v∧RZ H d v
 | [],_,_,_,_,e=>by simp at e
 | x::ds,vs,i,d,h,e=>by
  obtain ⟨u,r,e1,q,s⟩:=h
  subst e1
  cases i with
  | zero=>cases e; exact ⟨u,rfl,q⟩
  | succ i=>
   obtain ⟨v,e2,h2⟩:=j6 (i:=i) s (by simpa using e)
   exact ⟨v,by simpa using e2,h2⟩
theorem nO {H:Hp}:∀{ds es:List PyData} {vs ws:List V},d8 H ds vs→d8 H es ws→d8 H (ds++es) (vs++ws)
 | [],_,_,_,h,g=>by cases (show _=[] from h); exact g
 | d::ds,_,_,_,h,g=>by
  obtain ⟨u,r,e1,q,s⟩:=h
  subst e1
  exact ⟨u,_,rfl,q,nO s g⟩
theorem Bw {H:Hp}:∀{ds:List PyData} {vs:List V} (n:Nat),d8 H ds vs→d8 H (ds.take n) (vs.take n)
 | _,_,0,_=>by rw [List.take_zero,List.take_zero]; rfl
 | [],_,n + 1,h=>by cases (show _=[] from h); rfl
 | d::ds,_,n + 1,h=>by
  obtain ⟨u,r,e1,q,s⟩:=h
  subst e1
  exact ⟨u,_,rfl,q,Bw n s⟩
theorem By {H:Hp}:∀{ds:List PyData} {vs:List V} (n:Nat),d8 H ds vs→d8 H (ds.drop n) (vs.drop n)
 | _,_,0,h=>h
 | [],_,n + 1,h=>by cases (show _=[] from h); rfl
 | d::ds,_,n + 1,h=>by
  obtain ⟨u,r,e1,q,s⟩:=h
  subst e1
  exact By n s
theorem Ht {H:Hp} {d:PyData} {v:V} (hv:RZ H d v):∀{ds:List PyData} {vs:List V} (i:Nat),d8 H ds vs→d8 H (ds.set i d) (vs.set i v)
 | [],_,_,h=>by cases (show _=[] from h); rfl
 | x::ds,_,i,h=>by
  obtain ⟨u,r,e1,q,s⟩:=h
  subst e1
  cases i with
  | zero=>exact ⟨v,r,rfl,hv,s⟩
  | succ i=>exact ⟨u,_,rfl,q,Ht hv i s⟩
noncomputable def gG:PyData→Bool
 | .none=>true
 | .bool _=>true
 | .int _=>true
 | .str _=>true
 | _=>false
noncomputable def toV:PyData→V
 | .none=>.non
 | .bool b=>.bl b
 | .int i=>.int i
 | .str x=>.str x
 | _=>.non
theorem QK {H:Hp} {d:PyData} {v:V} (f:gG d=true) (h:RZ H d v):v=toV d:=by
 cases d <;> first | exact h | cases f
theorem QL {H:Hp} {d:PyData} (f:gG d=true):RZ H d (toV d):=by
 cases d <;> first | rfl | cases f
theorem uR {H:Hp}:∀{ds:List PyData} {vs:List V},ds.all gG=true→d8 H ds vs→vs=ds.map toV
 | [],_,_,h=>h
 | d::ds,vs,f,h=>by
  obtain ⟨u,r,e1,q,s⟩:=h
  rw [List.all_cons,Bool.and_eq_true] at f
  rw [e1,QK f.1 q,uR f.2 s]
  rfl
theorem MT {H:Hp} (ns:List Int):d8 H (ns.map PyData.int) (ns.map V.int):=by
 induction ns with
 | nil=>rfl
 | cons n r ih=>exact ⟨_,_,rfl,rfl,ih⟩
theorem qg {H:Hp} (ns:List Str):d8 H (ns.map PyData.str) (ns.map V.str):=by
 induction ns with
 | nil=>rfl
 | cons n r ih=>exact ⟨_,_,rfl,rfl,ih⟩
mutual
noncomputable def wW:PyData→Bool
 | .list _=>false
 | .tuple ds=>fW ds
 | .dict _=>false
 | _=>true
noncomputable def fW:List PyData→Bool
 | []=>true
 | d::r=>wW d&&fW r
end
mutual
theorem RZ.wW {H H':Hp} (t:∀a vs,H a=some (.tup vs)→H' a=some (.tup vs)):∀{d:PyData} {v:V},wW d=true→RZ H d v→RZ H' d v
 | .none,_,_,h=>h
 | .bool _,_,_,h=>h
 | .int _,_,_,h=>h
 | .str _,_,_,h=>h
 | .list ds,_,n,h=>nomatch n
 | .tuple ds,_,n,h=>by
  obtain ⟨a,vs,e,q,r⟩:=h
  exact ⟨a,vs,e,t _ _ q,d8.wW t n r⟩
 | .dict _,_,n,_=>nomatch n
theorem d8.wW {H H':Hp} (t:∀a vs,H a=some (.tup vs)→H' a=some (.tup vs)):∀{ds:List PyData} {vs:List V},fW ds=true→d8 H ds vs→d8 H' ds vs
 | [],_,_,h=>h
 | d::ds,vs,n,h=>by
  obtain ⟨v,r,e,q,w⟩:=h
  have n':L2.wW d=true∧fW ds=true:=by rw [fW,Bool.and_eq_true] at n; exact n
  exact ⟨v,r,e,RZ.wW t n'.1 q,d8.wW t n'.2 w⟩
end
mutual
noncomputable def J4:PyData→Bool
 | .list ds=>iR ds
 | .tuple ds=>iR ds
 | .dict _=>false
 | _=>true
noncomputable def iR:List PyData→Bool
 | []=>true
 | d::r=>J4 d&&iR r
end
mutual
theorem RZ.rx {H:Hp}:∀{d:PyData} {v:V},J4 d=true→RZ H d v→RX H d v
 | .none,_,_,h=>h
 | .bool _,_,_,h=>h
 | .int _,_,_,h=>h
 | .str _,_,_,h=>h
 | .list ds,_,n,h=>by
  obtain ⟨a,vs,e,q,r⟩:=h
  exact ⟨a,vs,e,q,d8.rx n r⟩
 | .tuple ds,_,n,h=>by
  obtain ⟨a,vs,e,q,r⟩:=h
  exact ⟨a,vs,e,q,d8.rx n r⟩
 | .dict _,_,n,_=>nomatch n
theorem d8.rx {H:Hp}:∀{ds:List PyData} {vs:List V},iR ds=true→d8 H ds vs→Bm H ds vs
 | [],_,_,h=>h
 | d::ds,vs,n,h=>by
  obtain ⟨v,r,e,q,t⟩:=h
  have n':J4 d=true∧iR ds=true:=by rw [iR,Bool.and_eq_true] at n; exact n
  exact ⟨v,r,e,RZ.rx n'.1 q,d8.rx n'.2 t⟩
end
inductive Vl where
 | im (d:PyData)
 | ow (d:PyData)
 | ce (n:Nat)
 | sc (ns:List Int)
noncomputable abbrev En:=List (Option Vl)
noncomputable abbrev Ce:=List (List Int)
noncomputable def own1:Option Vl→Option V→List Addr
 | some (.ow _),some (.ref a)=>[a]
 | _,_=>[]
noncomputable def aX:En→St→List Addr
 | x::e,v::s=>own1 x v++aX e s
 | _,_=>[]
theorem cz {a:Addr}:∀{env:En} {σ:St},a∈aX env σ ↔ ∃(i:Nat) (d:PyData),env[i]?=some (some (Vl.ow d))∧σ[i]?=some (some (V.ref a))
 | [],σ=>by
  constructor
  ·intro h; simp [aX] at h
  ·rintro ⟨i,d,e,_⟩; simp at e
 | x::e,[]=>by
  constructor
  ·intro h; simp [aX] at h
  ·rintro ⟨i,d,_,e⟩; simp at e
 | x::e,v::s=>by
  rw [aX,List.mem_append,cz (env:=e) (σ:=s)]
  constructor
  ·rintro (h | ⟨i,d,h1,h2⟩)
   ·unfold own1 at h
    split at h
    ·rw [List.mem_singleton] at h
     subst h
     exact ⟨0,_,rfl,rfl⟩
    ·simp at h
   ·exact ⟨i + 1,d,by simpa using h1,by simpa using h2⟩
  ·rintro ⟨i,d,h1,h2⟩
   cases i with
   | zero=>
    simp at h1 h2
    subst h1 h2
    exact .inl (List.mem_singleton.mpr rfl)
   | succ i=>exact .inr ⟨i,d,by simpa using h1,by simpa using h2⟩
theorem qi {a:Addr}:∀{env:En} {σ:St} {i j:Nat} {d e:PyData},(aX env σ).Nodup→env[i]?=some (some (Vl.ow d))→σ[i]?=some (some (V.ref a))→env[j]?=some (some (Vl.ow e))→σ[j]?=some (some (V.ref a))→i=j
 | [],_,i,_,_,_,_,h,_,_,_=>by simp at h
 | _::_,[],i,_,_,_,_,_,h,_,_=>by simp at h
 | x::en,v::s,i,j,d,e,nd,h1,h2,h3,h4=>by
  rw [aX,List.nodup_append] at nd
  cases i with
  | zero=>
   cases j with
   | zero=>rfl
   | succ j=>
    simp at h1 h2
    subst h1 h2
    have:a∈aX en s:=cz.mpr ⟨j,e,by simpa using h3,by simpa using h4⟩
    exact absurd rfl (nd.2.2 a (List.mem_singleton.mpr rfl) a this)
  | succ i=>
   cases j with
   | zero=>
    simp at h3 h4
    subst h3 h4
    have:a∈aX en s:=cz.mpr ⟨i,d,by simpa using h1,by simpa using h2⟩
    exact absurd rfl (nd.2.2 a (List.mem_singleton.mpr rfl) a this)
   | succ j=>rw [qi (i:=i) (j:=j) nd.2.1 (by simpa using h1) (by simpa using h2) (by simpa using h3) (by simpa using h4)]
noncomputable def fz1 (x y:Option Vl):Prop:=y=x∨∃d,x=some (.ow d)∧y=some (.im d)
noncomputable def Fz:En→En→Prop
 | [],[]=>True
 | x::r,y::t=>fz1 x y∧Fz r t
 | _,_=>False
theorem Fz.refl:∀e:En,Fz e e
 | []=>trivial
 | x::r=>⟨.inl rfl,Fz.refl r⟩
theorem Fz.trans:∀{a b c:En},Fz a b→Fz b c→Fz a c
 | [],[],[],_,_=>trivial
 | x::r,y::t,z::w,h,g=>by
  refine ⟨?_,Fz.trans h.2 g.2⟩
  rcases h.1 with e | ⟨d,e1,e2⟩
  ·rw [←e]; exact g.1
  ·rcases g.1 with e | ⟨d',e3,e4⟩
   ·exact .inr ⟨d,e1,e.trans e2⟩
   ·rw [e2] at e3; cases e3
 | [],[],_::_,_,g=>nomatch g
 | [],_::_,_,h,_=>nomatch h
 | _::_,[],_,h,_=>nomatch h
 | _::_,_::_,[],_,g=>nomatch g
theorem Fz.len:∀{a b:En},Fz a b→b.length=a.length
 | [],[],_=>rfl
 | _::_,_::_,h=>by rw [List.length_cons,List.length_cons,Fz.len h.2]
 | [],_::_,h=>nomatch h
 | _::_,[],h=>nomatch h
theorem Fz.at:∀{a b:En} {i:Nat} {y:Vl},Fz a b→b[i]?=some (some y)→a[i]?=some (some y)∨∃d,a[i]?=some (some (.ow d))∧y=.im d
 | [],[],i,y,_,e=>by simp at e
 | x::r,z::t,0,y,h,e=>by
  simp at e
  rcases h.1 with q | ⟨d,q1,q2⟩
  ·left; rw [←q,e]; rfl
  ·right; rw [e] at q2; cases q2; exact ⟨d,by rw [q1]; rfl,rfl⟩
 | x::r,z::t,i + 1,y,h,e=>by
  simpa using Fz.at (i:=i) h.2 (by simpa using e)
 | [],_::_,_,_,h,_=>nomatch h
 | _::_,[],_,_,h,_=>nomatch h
theorem QM {x y:Option Vl} (h:fz1 x y) (v:Option V):List.Sublist (own1 y v) (own1 x v):=by
 rcases h with e | ⟨d,e1,e2⟩
 ·rw [e]; exact List.Sublist.refl _
 ·rw [e2]; exact List.nil_sublist _
theorem Fz.own:∀{a b:En} {σ:St},Fz a b→List.Sublist (aX b σ) (aX a σ)
 | [],[],σ,_=>by cases σ <;> exact List.Sublist.refl _
 | x::r,y::t,[],h=>List.Sublist.refl _
 | x::r,y::t,v::s,h=>by
  rw [aX,aX]
  exact List.Sublist.append (QM h.1 v) (Fz.own h.2)
 | [],_::_,_,h=>nomatch h
 | _::_,[],_,h=>nomatch h
noncomputable abbrev aK (Z Θ:List Addr) (env:En) (σ:St):List Addr:=Z++(Θ++aX env σ)
noncomputable def mK (E H:Hp) (a:Addr):PyData→Prop
 | .list ds=>∃vs,H a=some (.lst vs)∧d8 E ds vs
 | .dict kvs=>∃vs,Th H a kvs vs∧pN E kvs vs
 | _=>False
theorem mK.same {E E' H H':Hp} {a:Addr} {d:PyData} (s:aU E E') (h:∀o,H a=some o→H' a=some o) (r:mK E H a d):mK E' H' a d:=by
 cases d <;> first | exact r.elim | skip
 ·obtain ⟨vs,e,q⟩:=r
  exact ⟨vs,h _ e,q.same s⟩
 ·obtain ⟨vs,e,q⟩:=r
  refine ⟨vs,?_,q.same s⟩
  rcases e with ⟨ks,k,e⟩ | ⟨ks,k,e⟩
  ·exact .inl ⟨ks,k,h _ e⟩
  ·exact .inr ⟨ks,k,h _ e⟩
theorem mK.rz {E H:Hp} {a:Addr} {d:PyData} (h:∀o,H a=some o→E a=some o) (r:mK E H a d):RZ E d (.ref a):=by
 cases d <;> first | exact r.elim | skip
 ·obtain ⟨vs,e,q⟩:=r
  exact ⟨a,vs,rfl,h _ e,q⟩
 ·obtain ⟨vs,e,q⟩:=r
  refine ⟨a,vs,rfl,?_,q⟩
  rcases e with ⟨ks,k,e⟩ | ⟨ks,k,e⟩
  ·exact .inl ⟨ks,k,h _ e⟩
  ·exact .inr ⟨ks,k,h _ e⟩
structure bF (Θ:List Addr) (H H':Hp):Prop where
 keep:∀a o,H a=some o→a∉Θ→H' a=some o
 dom:∀a,H a≠none→H' a≠none
theorem bF.refl (Θ:List Addr) (H:Hp):bF Θ H H:=⟨fun _ _ e _=>e,fun _ e=>e⟩
theorem bF.trans {Θ:List Addr} {H H1 H2:Hp} (a:bF Θ H H1) (b:bF Θ H1 H2):bF Θ H H2:=⟨fun c o e n=>b.keep _ _ (a.keep _ _ e n) n,fun c e=>b.dom _ (a.dom _ e)⟩
theorem bF.none {Θ:List Addr} {H H':Hp} (k:bF Θ H H') {a:Addr} (h:H' a=none):H a=none:=by
 cases e:H a with
 | none=>rfl
 | some o=>exact absurd h (k.dom a (by rw [e]; exact Option.some_ne_none _))
theorem bF.of {Θ:List Addr} {H H':Hp} (s:aU H H'):bF Θ H H':=⟨fun a o e _=>s _ _ e,fun a h=>by
 cases e:H a with
 | none=>exact absurd e h
 | some o=>rw [s _ _ e]; exact Option.some_ne_none _⟩
theorem bF.upd {Θ:List Addr} {H:Hp} {p:Addr} {o:HO} (h:H p=Option.none):bF Θ H (L2.upd H p o):=bF.of (aU.upd h)
theorem fD {Z Z' Θ:List Addr} {H H':Hp} (k:bF Θ H H') (ht:∀a∈Θ,a∈Z) (hz:∀a,a∈Z'→a∈Z∨H a=none):aU (er Z H) (er Z' H'):=fun b o h=>by
 unfold er at h ⊢
 split at h
 ·cases h
 ·rename_i n
  rw [if_neg,k.keep _ _ h (fun m=>n (ht b m))]
  intro m
  rcases hz b m with q | q
  ·exact n q
  ·rw [q] at h; cases h
noncomputable def J5 (K:PySem.W.Frag) (E H:Hp) (Θ:List Addr):Vl→V→Prop
 | .im d,v=>RZ E d v
 | .ow d,v=>∃a,v=.ref a∧mK E H a d
 | .ce n,v=>∃a,v=.ref a∧Θ[n]?=some a
 | .sc ns,v=>∃a,v=.ref a∧cO K E a (ns.map V.int)
noncomputable def NT (o:Option HO):Prop:=∃u,o=some u∧∀vs,u≠.tup vs
theorem NT.ne {o:Option HO} (h:NT o):o≠none:=by
 obtain ⟨u,rfl,_⟩:=h
 exact Option.some_ne_none _
theorem mK.nt {E H:Hp} {a:Addr} {d:PyData} (r:mK E H a d):NT (H a):=by
 cases d <;> first | exact r.elim | skip
 ·obtain ⟨vs,e,q⟩:=r
  exact ⟨_,e,fun _ z=>nomatch z⟩
 ·obtain ⟨vs,e,q⟩:=r
  rcases e with ⟨ks,k,e⟩ | ⟨ks,k,e⟩
  ·exact ⟨_,e,fun _ z=>nomatch z⟩
  ·exact ⟨_,e,fun _ z=>nomatch z⟩
theorem mK.there {E H:Hp} {a:Addr} {d:PyData} (r:mK E H a d):H a≠none:=r.nt.ne
structure eY (Θ:List Addr) (C:Ce) (H:Hp):Prop where
 len:C.length=Θ.length
 at_:∀(n:Nat) (a:Addr) (ns:List Int),Θ[n]?=some a→C[n]?=some ns→H a=some (.lst (ns.map V.int))
structure Sm (K:PySem.W.Frag) (Z Θ:List Addr) (env:En) (C:Ce) (σ:St) (H:Hp):Prop where
 len:σ.length=env.length
 nd:(aK Z Θ env σ).Nodup
 dom:∀a∈Z,NT (H a)
 slot:∀(i:Nat) (x:Vl),env[i]?=some (some x)→∃v,σ[i]?=some (some v)∧J5 K (er (aK Z Θ env σ) H) H Θ x v
 cell:eY Θ C H
theorem eY.dom {Θ:List Addr} {C:Ce} {H:Hp} (c:eY Θ C H):∀a∈Θ,NT (H a):=fun a m=>by
 obtain ⟨n,hn,e⟩:=List.getElem_of_mem m
 have e1:Θ[n]?=some a:=by rw [List.getElem?_eq_getElem hn,e]
 have h2:n < C.length:=by rw [c.len]; exact hn
 exact ⟨_,c.at_ n a C[n] e1 (List.getElem?_eq_getElem h2),fun _ z=>nomatch z⟩
section
variable {K:PySem.W.Frag} {Z Θ:List Addr} {env env':En} {C C':Ce} {σ:St} {H H':Hp}
theorem Sm.Y4 (S:Sm K Z Θ env C σ H):∀a∈aK Z Θ env σ,NT (H a):=fun a m=>by
 rcases List.mem_append.mp m with m | m
 ·exact S.dom a m
 ·rcases List.mem_append.mp m with m | m
  ·exact S.cell.dom a m
  ·obtain ⟨i,d,e1,e2⟩:=cz.mp m
   obtain ⟨v,e3,b,e4,r⟩:=S.slot i _ e1
   rw [e2] at e3
   cases e3
   cases e4
   exact r.nt
theorem Sm.zy (S:Sm K Z Θ env C σ H):∀a∈aK Z Θ env σ,H a≠none:=fun a m=>(S.Y4 a m).ne
theorem Sm.Hu (S:Sm K Z Θ env C σ H):∀a∈Θ,a∈aK Z Θ env σ:=fun a m=>List.mem_append_right _ (List.mem_append_left _ m)
theorem J5.same {E E':Hp} {x:Vl} {v:V} (s:aU E E') (h:∀d a,x=.ow d→v=.ref a→∀o,H a=some o→H' a=some o) (r:J5 K E H Θ x v):J5 K E' H' Θ x v:=by
 cases x with
 | im d=>exact RZ.same s r
 | ow d=>obtain ⟨a,e,q⟩:=r; exact ⟨a,e,q.same s (h d a rfl e)⟩
 | ce n=>exact r
 | sc ns=>obtain ⟨a,e,q⟩:=r; exact ⟨a,e,s.seq q⟩
theorem Sm.eZ (S:Sm K Z Θ env C σ H) {a:Addr} (m:a∈aX env σ):a∉Z∧a∉Θ:=by
 have h:=S.nd
 rw [List.nodup_append] at h
 obtain ⟨_,h2,h3⟩:=h
 rw [List.nodup_append] at h2
 refine ⟨fun z=>h3 a z a (List.mem_append_right _ m) rfl,fun z=>h2.2.2 a z a m rfl⟩
theorem Sm.go (S:Sm K Z Θ env C σ H) (k:bF Θ H H') (c:eY Θ C' H'):Sm K Z Θ env C' σ H' where
 len:=S.len
 nd:=S.nd
 dom:=fun a m=>by
  obtain ⟨u,e,n⟩:=S.dom a m
  have h:=S.nd
  rw [List.nodup_append] at h
  exact ⟨u,k.keep _ _ e fun z=>h.2.2 a m a (List.mem_append_left _ z) rfl,n⟩
 slot:=fun i x e=>by
  obtain ⟨v,e1,r⟩:=S.slot i x e
  refine ⟨v,e1,r.same (fD k S.Hu fun a m=>.inl m) fun d a ex ev o ho=>k.keep _ _ ho ?_⟩
  subst ex ev
  exact (S.eZ (cz.mpr ⟨i,d,e,e1⟩)).2
 cell:=c
theorem Sm.fz (S:Sm K Z Θ env C σ H) (f:Fz env env'):Sm K Z Θ env' C σ H:=by
 have sub:List.Sublist (aK Z Θ env' σ) (aK Z Θ env σ):=List.Sublist.append (List.Sublist.refl _) (List.Sublist.append (List.Sublist.refl _) f.own)
 have sm:aU (er (aK Z Θ env σ) H) (er (aK Z Θ env' σ) H):=fD (bF.refl [] H) (fun _ m=>nomatch m) fun a m=>.inl (sub.subset m)
 refine ⟨by rw [f.len]; exact S.len,sub.nodup S.nd,S.dom,fun i x e0=>?_,S.cell⟩
 rcases f.at e0 with e | ⟨d,e,ex⟩
 ·obtain ⟨v,e1,r⟩:=S.slot i x e
  exact ⟨v,e1,r.same sm fun _ _ _ _ _ ho=>ho⟩
 ·subst ex
  obtain ⟨v,e1,a,ev,r⟩:=S.slot i _ e
  subst ev
  refine ⟨_,e1,mK.rz (H:=H) (fun o ho=>?_) (r.same sm fun _ ho=>ho)⟩
  unfold er
  rw [if_neg]
  ·exact ho
  ·intro m
   have hm:a∈aX env σ:=cz.mpr ⟨i,d,e,e1⟩
   rcases List.mem_append.mp m with m | m
   ·exact (S.eZ hm).1 m
   ·rcases List.mem_append.mp m with m | m
    ·exact (S.eZ hm).2 m
    ·obtain ⟨j,d',e3,e4⟩:=cz.mp m
     have nd:=S.nd
     rw [List.nodup_append] at nd
     have nd2:=nd.2.1
     rw [List.nodup_append] at nd2
     rcases f.at e3 with e5 | ⟨_,_,e5⟩
     ·have:=qi nd2.2.1 e e1 e5 e4
      subst this
      rw [e0] at e3
      cases e3
     ·cases e5
end
end L2
namespace L2
open PySem PySem.Spec PyProof.Rows PySem.W
section
variable {K:PySem.W.Frag} {Z Θ:List Addr} {env env':En} {C C':Ce} {σ:St} {H H':Hp} {a p:Addr}
theorem Sm.pop (S:Sm K (a::Z) Θ env C σ H):Sm K Z Θ env C σ H:=by
 have sm:aU (er (aK (a::Z) Θ env σ) H) (er (aK Z Θ env σ) H):=fD (bF.refl [] H) (fun _ m=>nomatch m) fun b m=>.inl (List.mem_cons_of_mem _ m)
 exact ⟨S.len,(List.nodup_cons.mp S.nd).2,fun b m=>S.dom b (List.mem_cons_of_mem _ m),fun i x e=>let ⟨v,e1,r⟩:=S.slot i x e; ⟨v,e1,r.same sm fun _ _ _ _ _ h=>h⟩,S.cell⟩
theorem Sm.push (S:Sm K Z Θ env C σ H) (hp:H p=none) (o:HO) (ho:∀vs,o≠.tup vs):Sm K (p::Z) Θ env C σ (upd H p o):=by
 have k:bF Θ H (upd H p o):=bF.upd hp
 have sm:aU (er (aK Z Θ env σ) H) (er (aK (p::Z) Θ env σ) (upd H p o)):=fD k S.Hu fun b m=>by
  rcases List.mem_cons.mp m with rfl | m
  ·exact .inr hp
  ·exact .inl m
 have c:eY Θ C (upd H p o):=⟨S.cell.len,fun n b ns e1 e2=>by
  have:=S.cell.at_ n b ns e1 e2
  rw [aJ (bB this hp)]
  exact this⟩
 refine ⟨S.len,List.nodup_cons.mpr ⟨fun m=>S.zy p m hp,S.nd⟩,fun b m=>?_,fun i x e=>?_,c⟩
 ·rcases List.mem_cons.mp m with rfl | m
  ·exact ⟨o,aH,ho⟩
  ·obtain ⟨u,e,n⟩:=S.dom b m
   exact ⟨u,by rw [aJ (bB e hp)]; exact e,n⟩
 ·obtain ⟨v,e1,r⟩:=S.slot i x e
  refine ⟨v,e1,r.same sm fun d b ex ev o' ho=>?_⟩
  rw [aJ (bB ho hp)]
  exact ho
theorem Sm.uN (S:Sm K Z Θ env C σ H) (s:aU H H'):Sm K Z Θ env C σ H':=
 S.go (bF.of s) ⟨S.cell.len,fun n b ns e1 e2=>s _ _ (S.cell.at_ n b ns e1 e2)⟩
noncomputable def Res (K:PySem.W.Frag) (Z Θ:List Addr) (env:En) (C:Ce) (σ:St) (H H':Hp):Vl→V→Prop
 | .im d,v=>Sm K Z Θ env C σ H'∧RZ (er (aK Z Θ env σ) H') d v
 | .ow d,v=>∃a,v=.ref a∧H a=none∧Sm K (a::Z) Θ env C σ H'∧mK (er (aK (a::Z) Θ env σ) H') H' a d
 | .ce n,v=>Sm K Z Θ env C σ H'∧∃a,v=.ref a∧Θ[n]?=some a
 | .sc ns,v=>Sm K Z Θ env C σ H'∧∃a,v=.ref a∧cO K (er (aK Z Θ env σ) H') a (ns.map V.int)
noncomputable def Vp (E T:Hp):PyData→V→Prop
 | .list ds,v=>∃a vs,v=.ref a∧T a=some (.lst vs)∧d8 E ds vs
 | .dict kvs,v=>∃a vs,v=.ref a∧Th T a kvs vs∧pN E kvs vs
 | d,v=>RZ E d v
theorem Vp.same {E E' T T':Hp} {d:PyData} {v:V} (s:aU E E') (t:aU T T') (h:Vp E T d v):Vp E' T' d v:=by
 cases d <;> first | exact RZ.same s h | skip
 ·obtain ⟨a,vs,e,q,r⟩:=h
  exact ⟨a,vs,e,t _ _ q,r.same s⟩
 ·obtain ⟨a,vs,e,q,r⟩:=h
  exact ⟨a,vs,e,q.same t,r.same s⟩
theorem RZ.bor {E T:Hp} {d:PyData} {v:V} (t:aU E T) (h:RZ E d v):Vp E T d v:=by
 cases d <;> first | exact h | skip
 ·obtain ⟨a,vs,e,q,r⟩:=h
  exact ⟨a,vs,e,t _ _ q,r⟩
 ·obtain ⟨a,vs,e,q,r⟩:=h
  exact ⟨a,vs,e,q.same t,r⟩
noncomputable abbrev d9 (Z Θ:List Addr) (env:En) (σ:St) (H:Hp) (d:PyData) (v:V):Prop:=Vp (er (aK Z Θ env σ) H) (er Θ H) d v
theorem jE {Z Z':List Addr} {H:Hp} (h:∀a,a∈Z'→a∈Z):aU (er Z H) (er Z' H):=fD (bF.refl [] H) (fun _ m=>nomatch m) fun b m=>.inl (h b m)
theorem Ti:aU (er (aK Z Θ env σ) H) (er Θ H):=jE fun a m=>List.mem_append_right _ (List.mem_append_left _ m)
theorem Fz.sub (f:Fz env env'):∀a,a∈aK Z Θ env' σ→a∈aK Z Θ env σ:=fun a m=>
 (List.Sublist.append (List.Sublist.refl _) (List.Sublist.append (List.Sublist.refl _) f.own)).subset m
theorem M3 (S:Sm K Z Θ env C σ H) (k:bF Θ H H') (f:Fz env env'):aU (er (aK Z Θ env σ) H) (er (aK Z Θ env' σ) H'):=fD k S.Hu fun a m=>.inl (f.sub a m)
theorem zA (k:bF Θ H H'):aU (er Θ H) (er Θ H'):=fD k (fun _ m=>m) fun a m=>.inl m
theorem d9.go {d:PyData} {v:V} (h:d9 Z Θ env σ H d v) (S:Sm K Z Θ env C σ H) (k:bF Θ H H') (f:Fz env env'):d9 Z Θ env' σ H' d v:=Vp.same (M3 S k f) (zA k) h
noncomputable def dat:Vl→Option PyData
 | .im d=>some d
 | .ow d=>some d
 | .ce _=>none
 | .sc _=>none
theorem Res.sm {r:Vl} {v:V} (h:Res K Z Θ env C σ H H' r v):Sm K Z Θ env C σ H':=by
 cases r with
 | im d=>exact h.1
 | ow d=>obtain ⟨a,_,_,S,_⟩:=h; exact S.pop
 | ce n=>exact h.1
 | sc ns=>exact h.1
theorem Res.bor {r:Vl} {v:V} {d:PyData} (h:Res K Z Θ env C σ H H' r v) (e:dat r=some d):d9 Z Θ env σ H' d v:=by
 cases r with
 | im d'=>cases e; exact RZ.bor Ti h.2
 | ow d'=>
  cases e
  obtain ⟨a,rfl,_,S,r⟩:=h
  have na:a∉Θ:=fun m=>(List.nodup_cons.mp S.nd).1 (List.mem_append_right _ (List.mem_append_left _ m))
  have sm:aU (er (aK (a::Z) Θ env σ) H') (er (aK Z Θ env σ) H'):=jE fun b m=>List.mem_cons_of_mem _ m
  have ha:∀o,H' a=some o→er Θ H' a=some o:=fun o ho=>by unfold er; rw [if_neg na]; exact ho
  cases d <;> first | exact r.elim | skip
  ·obtain ⟨vs,e,q⟩:=r
   exact ⟨a,vs,rfl,ha _ e,q.same sm⟩
  ·obtain ⟨vs,e,q⟩:=r
   refine ⟨a,vs,rfl,?_,q.same sm⟩
   rcases e with ⟨ks,k,e⟩ | ⟨ks,k,e⟩
   ·exact .inl ⟨ks,k,ha _ e⟩
   ·exact .inr ⟨ks,k,ha _ e⟩
 | ce n=>cases e
 | sc ns=>cases e
noncomputable def still:Vl→Vl
 | .ow d=>.im d
 | r=>r
theorem Res.still {r:Vl} {v:V} (h:Res K Z Θ env C σ H H' r v):Res K Z Θ env C σ H H' (still r) v:=by
 cases r with
 | ow d=>
  obtain ⟨a,rfl,hn,S,r⟩:=h
  refine ⟨S.pop,mK.rz (H:=H') (fun o ho=>?_) (r.same (jE fun b m=>List.mem_cons_of_mem _ m) fun _ h=>h)⟩
  unfold er
  rw [if_neg (show ¬a∈aK Z Θ env σ from (List.nodup_cons.mp S.nd).1)]
  exact ho
 | im d=>exact h
 | ce n=>exact h
 | sc ns=>exact h
theorem Res.from {H0:Hp} {r:Vl} {v:V} (h:Res K Z Θ env C σ H H' r v) (k:bF Θ H0 H):Res K Z Θ env C σ H0 H' r v:=by
 cases r with
 | ow d=>
  obtain ⟨a,e,hn,S,r⟩:=h
  exact ⟨a,e,k.none hn,S,r⟩
 | im d=>exact h
 | ce n=>exact h
 | sc ns=>exact h
theorem uT (S:Sm K Z Θ env C σ H) {a:Addr} {vs:List V} (h:H a=some (.tup vs)):er (aK Z Θ env σ) H a=some (.tup vs):=by
 unfold er
 rw [if_neg]
 ·exact h
 ·intro m
  obtain ⟨u,e,n⟩:=S.Y4 a m
  rw [h] at e
  exact n vs (Option.some.inj e).symm
noncomputable def rst (r:Vl) (env env':En):En:=match r with
 | .im d=>if wW d then env else env'
 | _=>env'
theorem Res.rst {r:Vl} {v:V} (S:Sm K Z Θ env C σ H) (k:bF Θ H H') (h:Res K Z Θ env' C' σ H H' r v):Res K Z Θ (rst r env env') C' σ H H' r v:=by
 cases r with
 | im d=>
  by_cases f:L2.wW d=true
  ·have:L2.rst (.im d) env env'=env:=if_pos f
   rw [this]
   have S':=S.go k h.1.cell
   exact ⟨S',h.2.wW (fun a vs e=>uT S' (bD e)) f⟩
  ·have:L2.rst (.im d) env env'=env':=if_neg f
   rw [this]
   exact h
 | ow d=>exact h
 | ce n=>exact h
 | sc ns=>exact h
theorem Fz.rst (r:Vl) (f:Fz env env'):Fz env (rst r env env'):=by
 cases r with
 | im d=>
  show Fz env (if L2.wW d then env else env')
  split
  ·exact Fz.refl _
  ·exact f
 | ow d=>exact f
 | ce n=>exact f
 | sc ns=>exact f
theorem aZ {d:PyData} (S:Sm K Z Θ env C σ H) (f:gG d=true) {v:V} (hv:v=toV d):Res K Z Θ env C σ H H (.im d) v:=⟨S,by rw [hv]; exact QL f⟩
theorem dY {ds:List PyData} {vs:List V} (S:Sm K Z Θ env C σ H) (r:d8 (er (aK Z Θ env σ) H) ds vs) (hp:H p=none):Res K Z Θ env C σ H (upd H p (.lst vs)) (.ow (.list ds)) (.ref p):=by
 refine ⟨p,rfl,hp,S.push hp _ (fun _ z=>nomatch z),vs,aH,r.same (fD (bF.upd (Θ:=Θ) hp) S.Hu fun b m=>?_)⟩
 rcases List.mem_cons.mp m with rfl | m
 ·exact .inr hp
 ·exact .inl m
theorem QS {kvs:List (PyData×PyData)} {vs:List V} {o:HO} (S:Sm K Z Θ env C σ H) (ho:∀vs,o≠.tup vs) (d:Th (upd H p o) p kvs vs) (r:pN (er (aK Z Θ env σ) H) kvs vs) (hp:H p=none):Res K Z Θ env C σ H (upd H p o) (.ow (.dict kvs)) (.ref p):=by
 refine ⟨p,rfl,hp,S.push hp _ ho,vs,d,r.same (fD (bF.upd (Θ:=Θ) hp) S.Hu fun b m=>?_)⟩
 rcases List.mem_cons.mp m with rfl | m
 ·exact .inr hp
 ·exact .inl m
theorem ug {ds:List PyData} {vs:List V} (S:Sm K Z Θ env C σ H) (r:d8 (er (aK Z Θ env σ) H) ds vs) (hp:H p=none):Res K Z Θ env C σ H (upd H p (.tup vs)) (.im (.tuple ds)) (.ref p):=by
 have S':=S.uN (aU.upd (o:=.tup vs) hp)
 refine ⟨S',p,vs,rfl,?_,r.same (fD (bF.upd (Θ:=Θ) hp) S.Hu fun b m=>.inl m)⟩
 unfold er
 rw [if_neg (fun m=>S.zy p m hp),aH]
end
noncomputable abbrev FE:=En→Ce→Option (Vl×En×Ce)
noncomputable abbrev FB:=En→Ce→Option (PyData×En×Ce)
noncomputable abbrev FT:=En→Ce→Option (Bool×Ce)
noncomputable abbrev Pu:=En→Ce→Option (List PyData×En×Ce)
noncomputable abbrev FA:=En→Ce→Option (List Vl×En×Ce)
noncomputable def tE (K:PySem.W.Frag) (f:FE):TE:=fun σ H Q=>∃Z Θ env C r env' C',Sm K Z Θ env C σ H∧f env C=some (r,env',C')∧
 ∀v H',bF Θ H H'→Fz env env'→Res K Z Θ env' C' σ H H' r v→Q v H'
noncomputable def mL (K:PySem.W.Frag) (f:FB):TE:=fun σ H Q=>∃Z Θ env C d env' C',Sm K Z Θ env C σ H∧f env C=some (d,env',C')∧
 ∀v H',bF Θ H H'→Fz env env'→Sm K Z Θ env' C' σ H'→d9 Z Θ env' σ H' d v→Q v H'
noncomputable def lX (K:PySem.W.Frag) (f:FT):TT:=fun σ H Q=>∃Z Θ env C b C',Sm K Z Θ env C σ H∧f env C=some (b,C')∧
 ∀H',bF Θ H H'→Sm K Z Θ env C' σ H'→Q b H'
inductive Ez (E T:Hp):List PyData→List V→Prop
 | nil:Ez E T [] []
 | cons {d:PyData} {v:V} {ds:List PyData} {vs:List V}:Vp E T d v→Ez E T ds vs→Ez E T (d::ds) (v::vs)
noncomputable abbrev Hv (Z Θ:List Addr) (env:En) (σ:St) (H:Hp) (ds:List PyData) (vs:List V):Prop:=Ez (er (aK Z Θ env σ) H) (er Θ H) ds vs
noncomputable def Vq (K:PySem.W.Frag) (f:Pu):TA:=fun σ H Q=>∃Z Θ env C ds env' C',Sm K Z Θ env C σ H∧f env C=some (ds,env',C')∧
 ∀vs H',bF Θ H H'→Fz env env'→Sm K Z Θ env' C' σ H'→Hv Z Θ env' σ H' ds vs→Q vs H'
theorem PE.weak {X:Cx} {e:Expr} {t t':TE} (h:PE X e t) (w:∀σ H Q,t' σ H Q→t σ H Q):PE X e t':=fun pins s σ H Q I q=>h pins s σ H Q I (w σ H Q q)
theorem PT.weak {X:Cx} {e:Expr} {t t':TT} (h:PT X e t) (w:∀σ H Q,t' σ H Q→t σ H Q):PT X e t':=fun pins s σ H Q I q=>h pins s σ H Q I (w σ H Q q)
theorem PA.weak {X:Cx} {e:List Expr} {t t':TA} (h:PA X e t) (w:∀σ H Q,t' σ H Q→t σ H Q):PA X e t':=fun p pins s σ H Q I q=>h p pins s σ H Q I (w σ H Q q)
theorem PS.weak {X:Cx} {e:Stmt} {t t':TS} (h:PS X e t) (w:∀D σ H,t' D σ H→t D σ H):PS X e t':=fun pins s σ H D I q=>h pins s σ H D I (w D σ H q)
theorem tX.weak {X:Cx} {e:List Stmt} {t t':TS} (h:tX X e t) (w:∀D σ H,t' D σ H→t D σ H):tX X e t':=fun pins s σ H D I q=>h pins s σ H D I (w D σ H q)
theorem PW.weak {X:Cx} {e:Expr} {t t':TT} (h:PW X e t) (w:∀σ H Q,t' σ H Q→t σ H Q):PW X e t':=fun wh pins s σ H Q I q=>h wh pins s σ H Q I (w σ H Q q)
noncomputable def fVar (i:Nat):FE:=fun env C=>match env[i]? with
 | some (some (.im d))=>some (.im d,env,C)
 | some (some (.ow d))=>some (.im d,env.set i (some (.im d)),C)
 | some (some (.ce n))=>some (.ce n,env,C)
 | some (some (.sc ns))=>some (.sc ns,env,C)
 | _=>none
noncomputable def aF (i:Nat):FB:=fun env C=>match env[i]? with
 | some (some x)=>(dat x).map fun d=>(d,env,C)
 | _=>none
noncomputable def fCst (d:PyData):FE:=fun env C=>some (.im d,env,C)
noncomputable def aB (f:FE):FB:=fun env C=>match f env C with
 | some (r,e',C')=>(dat r).map fun d=>(d,e',C')
 | none=>none
theorem M4:∀{env:En} {i:Nat} {d:PyData},env[i]?=some (some (.ow d))→Fz env (env.set i (some (.im d)))
 | [],i,d,e=>by simp at e
 | x::r,0,d,e=>by simp at e; subst e; exact ⟨.inr ⟨d,rfl,rfl⟩,Fz.refl r⟩
 | x::r,i + 1,d,e=>⟨.inl rfl,M4 (by simpa using e)⟩
section
variable {X:Cx} {e:Expr} {i:Nat}
theorem az (h:PE X e (wK i)):PE X e (tE X.K (fVar i)):=h.weak fun σ H Q aV=>by
 obtain ⟨Z,Θ,env,C,r,env',C',S,hf,q⟩:=aV
 unfold fVar at hf
 split at hf
 all_goals first | (rename_i d hd; cases hf) | cases hf
 ·obtain ⟨v,e1,r⟩:=S.slot i _ hd
  exact ⟨v,e1,q v H (bF.refl _ _) (Fz.refl _) ⟨S,r⟩⟩
 ·have f:=M4 hd
  obtain ⟨v,e1,r⟩:=S.slot i _ hd
  have S':=S.fz f
  refine ⟨v,e1,q v H (bF.refl _ _) f ⟨S',?_⟩⟩
  have hi:i < env.length:=by
   have:=List.getElem?_eq_some_iff.mp hd
   exact this.1
  obtain ⟨v',e2,r'⟩:=S'.slot i (.im d) (by rw [List.getElem?_set,if_pos rfl,if_pos hi])
  rw [e1] at e2
  cases e2
  exact r'
 ·obtain ⟨v,e1,r⟩:=S.slot i _ hd
  exact ⟨v,e1,q v H (bF.refl _ _) (Fz.refl _) ⟨S,r⟩⟩
 ·obtain ⟨v,e1,r⟩:=S.slot i _ hd
  exact ⟨v,e1,q v H (bF.refl _ _) (Fz.refl _) ⟨S,r⟩⟩
theorem aq (h:PE X e (wK i)):PE X e (mL X.K (aF i)):=h.weak fun σ H Q aV=>by
 obtain ⟨Z,Θ,env,C,d,env',C',S,hf,q⟩:=aV
 unfold aF at hf
 split at hf
 ·rename_i x hx
  obtain ⟨v,e1,r⟩:=S.slot i _ hx
  have ex:dat x=some d∧env=env'∧C=C':=by
   cases hd:dat x with
   | none=>rw [hd] at hf; cases hf
   | some d'=>rw [hd] at hf; cases hf; exact ⟨rfl,rfl,rfl⟩
  obtain ⟨ex,rfl,rfl⟩:=ex
  refine ⟨v,e1,q v H (bF.refl _ _) (Fz.refl _) S ?_⟩
  cases x with
  | im d'=>cases ex; exact RZ.bor Ti r
  | ow d'=>
   cases ex
   obtain ⟨a,rfl,r⟩:=r
   have na:=(S.eZ (cz.mpr ⟨i,_,hx,e1⟩)).2
   have ha:∀o,H a=some o→er Θ H a=some o:=fun o ho=>by unfold er; rw [if_neg na]; exact ho
   cases d <;> first | exact r.elim | skip
   ·obtain ⟨vs,e,q⟩:=r
    exact ⟨a,vs,rfl,ha _ e,q⟩
   ·obtain ⟨vs,e,q⟩:=r
    refine ⟨a,vs,rfl,?_,q⟩
    rcases e with ⟨ks,k,e⟩ | ⟨ks,k,e⟩
    ·exact .inl ⟨ks,k,ha _ e⟩
    ·exact .inr ⟨ks,k,ha _ e⟩
  | ce n=>cases ex
  | sc ns=>cases ex
 ·cases hf
theorem ao {d:PyData} {v:V} (h:PE X e (tC v)) (f:gG d=true:=by rfl) (hv:v=toV d:=by rfl):PE X e (tE X.K (fCst d)):=h.weak fun σ H Q aV=>by
 obtain ⟨Z,Θ,env,C,r,env',C',S,hf,q⟩:=aV
 cases hf
 exact q v H (bF.refl _ _) (Fz.refl _) (aZ S f hv)
theorem aj {f:FE} (h:PE X e (tE X.K f)):PE X e (mL X.K (aB f)):=h.weak fun σ H Q aV=>by
 obtain ⟨Z,Θ,env,C,d,env',C',S,hf,q⟩:=aV
 unfold aB at hf
 split at hf
 ·rename_i r e' C1 hr
  cases hd:dat r with
  | none=>rw [hd] at hf; cases hf
  | some d'=>
   rw [hd] at hf
   cases hf
   exact ⟨Z,Θ,env,C,r,env',C',S,hr,fun v H' k f R=>q v H' k f R.sm (R.bor hd)⟩
 ·cases hf
end
end L2
namespace L2
open PySem PySem.Spec PyProof.Rows PySem.W
noncomputable def LIM:Nat:=1000000
theorem dO {n:Nat} (h:n≤LIM):n≤sizeLine:=by rw [sizeLine_eq]; unfold LIM at h; omega
noncomputable def oG (K:PySem.W.Frag) (r:R2) (op:PyData→PyData→Option Vl):Prop:=
 ∀(Z Θ:List Addr) (env:En) (C:Ce) (σ:St) (H:Hp) (x y:V) (dx dy:PyData) (res:Vl),Sm K Z Θ env C σ H→d9 Z Θ env σ H dx x→d9 Z Θ env σ H dy y→op dx dy=some res→
  ∀Q:VK,(∀v H',bF Θ H H'→Res K Z Θ env C σ H H' res v→Q v H')→r x y H Q
noncomputable def aG (op:PyData→PyData→Option Vl) (fa fb:FB):FE:=fun env C=>match fa env C with
 | some (x,e1,C1)=>match fb e1 C1 with
  | some (y,e2,C2)=>match op x y with
   | some r=>some (r,rst r env e2,C2)
   | none=>none
  | none=>none
 | none=>none
theorem qj {K:PySem.W.Frag} {r:R2} {op:PyData→PyData→Option Vl} (L:oG K r op) {fa fb:FB}:∀σ H Q,tE K (aG op fa fb) σ H Q→W3 r (mL K fa) (mL K fb) σ H Q:=by
 rintro σ H Q ⟨Z,Θ,env,C,res,env',C',S,hf,q⟩
 unfold aG at hf
 split at hf
 ·rename_i x e1 C1 h1
  split at hf
  ·rename_i y e2 C2 h2
   split at hf
   ·rename_i r0 h3
    cases hf
    refine ⟨Z,Θ,env,C,x,e1,C1,S,h1,fun v H1 k1 f1 S1 b1=>⟨Z,Θ,e1,C1,y,e2,C',S1,h2,fun u H2 k2 f2 S2 b2=>?_⟩⟩
    refine L Z Θ e2 C' σ H2 v u x y res S2 (b1.go S1 k2 f2) b2 h3 Q fun z H3 k3 R=>?_
    have k:=(k1.trans k2).trans k3
    exact q z H3 k ((f1.trans f2).rst res) ((R.from (k1.trans k2)).rst S k)
   ·cases hf
  ·cases hf
 ·cases hf
section
variable {X:Cx} {a b:Expr} {fa fb:FB} {pos:Pos} {r:R2} {op:PyData→PyData→Option Vl}
theorem aL {o:Operator} (ho:gW X (binaryOp o) r) (L:oG X.K r op) (ha:PE X a (mL X.K fa)) (hb:PE X b (mL X.K fb)):PE X (.BinOp a o b pos) (tE X.K (aG op fa fb)):=(W4 ho ha hb).weak (qj L)
theorem rD {o:CmpOp} (ho:gW X (compareOp o) r) (L:oG X.K r op) (ha:PE X a (mL X.K fa)) (hb:PE X b (mL X.K fb)) (hm:behindInMarks o b=false):PE X (.Compare a [o] [b] pos) (tE X.K (aG op fa fb)):=(Qe ho ha hb hm).weak (qj L)
theorem bM (ho:KH X r) (L:oG X.K r op) (ha:PE X a (mL X.K fa)) (hb:PE X b (mL X.K fb)) (hs:t7 b):PE X (.Subscript a b pos) (tE X.K (aG op fa fb)):=(Lw ho ha hb hs).weak (qj L)
end
theorem oG.or {K:PySem.W.Frag} {r r':R2} {op op':PyData→PyData→Option Vl} (h:oG K r op) (h':oG K r' op'):oG K (fun x y H Q=>r x y H Q∨r' x y H Q) (fun x y=>match op x y with | some z=>some z | none=>op' x y):=by
 intro Z Θ env C σ H x y dx dy res S bx jh e Q q
 cases h1:op dx dy with
 | some z=>
  simp only [h1] at e
  cases e
  exact .inl (h Z Θ env C σ H x y dx dy _ S bx jh h1 Q q)
 | none=>
  simp only [h1] at e
  exact .inr (h' Z Θ env C σ H x y dx dy res S bx jh e Q q)
section
variable {K:PySem.W.Frag} {Z Θ:List Addr} {env:En} {C:Ce} {σ:St} {H:Hp} {x:V}
theorem d9.int {i:Int} (h:d9 Z Θ env σ H (.int i) x):x=.int i:=h
theorem d9.str {i:Str} (h:d9 Z Θ env σ H (.str i) x):x=.str i:=h
theorem d9.tup {ds:List PyData} (h:d9 Z Θ env σ H (.tuple ds) x):∃a vs,x=.ref a∧H a=some (.tup vs)∧d8 (er (aK Z Θ env σ) H) ds vs:=by
 obtain ⟨a,vs,e,q,r⟩:=h
 exact ⟨a,vs,e,bD q,r⟩
theorem d9.lst {ds:List PyData} (h:d9 Z Θ env σ H (.list ds) x):∃a vs,x=.ref a∧H a=some (.lst vs)∧d8 (er (aK Z Θ env σ) H) ds vs:=by
 obtain ⟨a,vs,e,q,r⟩:=h
 exact ⟨a,vs,e,bD q,r⟩
theorem d9.dct {kvs:List (PyData×PyData)} (h:d9 Z Θ env σ H (.dict kvs) x):∃a vs,x=.ref a∧Th H a kvs vs∧pN (er (aK Z Θ env σ) H) kvs vs:=by
 obtain ⟨a,vs,e,q,r⟩:=h
 exact ⟨a,vs,e,q.same (tB _ _),r⟩
theorem d9.flat {d:PyData} (f:gG d=true) (h:d9 Z Θ env σ H d x):x=toV d:=by
 cases d <;> first | exact h | cases f
theorem d9.rx {d:PyData} (n:J4 d=true) (h:d9 Z Θ env σ H d x):RX H d x:=by
 cases d <;> first | exact h | skip
 ·obtain ⟨a,vs,e,q,r⟩:=h
  exact ⟨a,vs,e,bD q,(r.same (tB _ _)).rx n⟩
 ·obtain ⟨a,vs,e,q,r⟩:=h
  exact ⟨a,vs,e,bD q,(r.same (tB _ _)).rx n⟩
 ·cases n
end
section
variable {X:Cx}
noncomputable def bf:PyData→PyData→Option Vl
 | .int i,.int j=>some (.im (.int (i + j)))
 | .str x,.str y=>if x.length + y.length≤LIM then some (.im (.str (x++y))) else none
 | .list xs,.list ys=>if xs.length + ys.length≤LIM then some (.ow (.list (xs++ys))) else none
 | .tuple xs,.tuple ys=>if xs.isEmpty then some (.im (.tuple ys)) else if xs.length + ys.length≤LIM then some (.im (.tuple (xs++ys))) else none
 | _,_=>none
noncomputable def Tj (K:PySem.W.Frag):R2:=fun x y H Q=>∃a b ys,x=.ref a∧y=.ref b∧eX K H a []∧eX K H b ys∧Q (.ref b) H
theorem QT {X:Cx}:gW X (binaryOp .Add) (Tj X.K):=by
 intro pins s σ H x y v u Q I rx ry h
 obtain ⟨a,b,ys,rfl,rfl,ha,hb,q⟩:=h
 cases rx
 cases ry
 obtain ⟨its,r1,p1,_⟩:=I.tuple ha
 obtain ⟨its2,r2,p2,_⟩:=I.tuple hb
 obtain ⟨⟨cls,dd,data,sl⟩,ho,hc,n,hd⟩:=id p1
 obtain ⟨⟨cls2,dd2,data2,sl2⟩,ho2,hc2,n2,hd2⟩:=id p2
 simp only at hc hd hc2 hd2
 subst hc hd hc2 hd2
 exact concat_meets ⟨_,ho,rfl⟩ ⟨_,ho2,rfl⟩ noFill_tuple_add seq_tuple_add PySem.F.slot_tuple_add PySem.F.entry_tuple_add (PySem.F.args_tuple_add_2 _ _)
  (tuple_addW0 a b its.toArray its2.toArray n n2 dd dd2 sl sl2 (by cases r1; rfl)) ⟨ho,ho2,⟨.ref b,H,I,rfl,q⟩⟩
noncomputable def Tn (K:PySem.W.Frag):R2:=fun x y H Q=>(((Jr fun i j=>.int (i + j)) x y H Q∨∃i j,x=.str i∧y=.str j∧i.length + j.length≤sizeLine∧Q (.str (i++j)) H)∨Xk x y H Q)∨Tj K x y H Q∨Sx K x y H Q
theorem aY:gW X (binaryOp .Add) (Tn X.K):=((Uv.or DR).or U7).or (QT.or Qm)
theorem bK {K:PySem.W.Frag}:oG K (Tn K) bf:=by
 intro Z Θ env C σ H x y dx dy res S bx jh e Q q
 unfold bf at e
 split at e
 ·cases e
  cases bx.int; cases jh.int
  exact .inl (.inl (.inl ⟨_,_,rfl,rfl,q _ _ (bF.refl _ _) (aZ S rfl rfl)⟩))
 ·split at e
  ·rename_i hl
   cases e
   cases bx.str; cases jh.str
   exact .inl (.inl (.inr ⟨_,_,rfl,rfl,dO hl,q _ _ (bF.refl _ _) (aZ S rfl rfl)⟩))
  ·cases e
 ·split at e
  ·rename_i hl
   cases e
   obtain ⟨a,vs,rfl,ha,r1⟩:=bx.lst
   obtain ⟨b,ws,rfl,hb,r2⟩:=jh.lst
   exact .inl (.inr ⟨a,b,vs,ws,rfl,rfl,ha,hb,by rw [bL r1,bL r2]; exact dO hl,fun p hp=>q _ _ (bF.upd hp) (dY S (nO r1 r2) hp)⟩)
  ·cases e
 ·split at e
  ·rename_i xs ys he
   cases e
   have:xs=[]:=List.isEmpty_iff.mp he
   subst this
   have by2:=jh
   obtain ⟨a,vs,rfl,ha,r1⟩:=bx.tup
   obtain ⟨b,ws,rfl,hb,r2⟩:=jh.tup
   cases (show vs=[] from r1)
   exact .inr (.inl ⟨a,b,ws,rfl,rfl,eX.of ha,eX.of hb,q _ _ (bF.refl _ _) ⟨S,by2⟩⟩)
  split at e
  ·rename_i xs ys he hl
   cases e
   obtain ⟨a,vs,rfl,ha,r1⟩:=bx.tup
   obtain ⟨b,ws,rfl,hb,r2⟩:=jh.tup
   have l1:=bL r1
   have l2:=bL r2
   have hv:vs≠[]:=fun z=>by
    subst z
    cases xs with
    | nil=>exact he rfl
    | cons _ _=>cases l1
   refine .inr (.inr ⟨a,b,vs,ws,rfl,rfl,eX.of ha,eX.of hb,hv,by rw [l1,l2]; exact dO hl,fun z=>?_,fun _ p hp=>q _ _ (bF.upd hp) (ug S (nO r1 r2) hp)⟩)
   subst z
   have:ys=[]:=List.eq_nil_of_length_eq_zero l2.symm
   subst this
   rw [List.append_nil] at q
   refine q _ _ (bF.refl _ _) ⟨S,?_⟩
   exact bx
  ·cases e
 ·cases e
noncomputable def yg:PyData→PyData→Option Vl
 | .int i,.int j=>some (.im (.int (i - j)))
 | _,_=>none
theorem zB {K:PySem.W.Frag} {g:Int→Int→V} {op:PyData→PyData→Option Vl} (h:∀dx dy res,op dx dy=some res→∃i j d,dx=.int i∧dy=.int j∧res=.im d∧gG d=true∧g i j=toV d):oG K (Jr g) op:=by
 intro Z Θ env C σ H x y dx dy res S bx jh e Q q
 obtain ⟨i,j,d,rfl,rfl,rfl,f,hv⟩:=h _ _ _ e
 cases bx.int; cases jh.int
 exact ⟨_,_,rfl,rfl,q _ _ (bF.refl _ _) (aZ S f hv)⟩
theorem zE {K:PySem.W.Frag} {Cn:Int→Int→Prop} {g:Int→Int→V} {op:PyData→PyData→Option Vl} (h:∀dx dy res,op dx dy=some res→∃i j d,dx=.int i∧dy=.int j∧res=.im d∧gG d=true∧g i j=toV d∧Cn i j):oG K (rI Cn g) op:=by
 intro Z Θ env C σ H x y dx dy res S bx jh e Q q
 obtain ⟨i,j,d,rfl,rfl,rfl,f,hv,c⟩:=h _ _ _ e
 cases bx.int; cases jh.int
 exact ⟨_,_,rfl,rfl,c,q _ _ (bF.refl _ _) (aZ S f hv)⟩
theorem EY {K:PySem.W.Frag}:oG K (Jr fun i j=>.int (i - j)) yg:=zB fun dx dy res e=>by
 unfold yg at e
 split at e <;> cases e
 exact ⟨_,_,_,rfl,rfl,rfl,rfl,rfl⟩
noncomputable def lH:PyData→PyData→Option Vl
 | .int i,.int j=>if 0 < j then some (.im (.int (i % j))) else none
 | _,_=>none
theorem oZ {K:PySem.W.Frag}:oG K (rI (fun _ j=>0 < j) fun i j=>.int (i % j)) lH:=zE fun dx dy res e=>by
 unfold lH at e
 split at e
 ·split at e
  ·rename_i h; cases e; exact ⟨_,_,_,rfl,rfl,rfl,rfl,rfl,h⟩
  ·cases e
 ·cases e
noncomputable def rE:PyData→PyData→Option Vl
 | .int i,.int j=>if 0 < j∧j < 1073741824 then some (.im (.int (i / j))) else none
 | _,_=>none
theorem Hw {K:PySem.W.Frag}:oG K (rI W6 fun i j=>.int (i / j)) rE:=zE fun dx dy res e=>by
 unfold rE at e
 split at e
 ·split at e
  ·rename_i h; cases e; exact ⟨_,_,_,rfl,rfl,rfl,rfl,rfl,h⟩
  ·cases e
 ·cases e
noncomputable def lJ:PyData→PyData→Option Vl
 | .int i,.int j=>if 0≤j∧j≤1000000∧i.natAbs < 2 ^ 64 then some (.im (.int (i ^ j.toNat))) else none
 | _,_=>none
theorem zF {K:PySem.W.Frag}:oG K (rI W7 fun i j=>.int (i ^ j.toNat)) lJ:=zE fun dx dy res e=>by
 unfold lJ at e
 split at e
 ·split at e
  ·rename_i h; cases e; exact ⟨_,_,_,rfl,rfl,rfl,rfl,rfl,h⟩
  ·cases e
 ·cases e
noncomputable def lK:PyData→PyData→Option Vl
 | .int i,.int j=>if (-(2 ^ 64) < i∧i < 2 ^ 64)∨(-(2 ^ 64) < j∧j < 2 ^ 64) then some (.im (.int (i * j))) else none
 | _,_=>none
theorem o6 {K:PySem.W.Frag}:oG K (rI Le fun i j=>.int (i * j)) lK:=zE fun dx dy res e=>by
 unfold lK at e
 split at e
 ·split at e
  ·rename_i h; cases e; exact ⟨_,_,_,rfl,rfl,rfl,rfl,rfl,h⟩
  ·cases e
 ·cases e
end
section
variable {X:Cx}
noncomputable def Vr:PyData→PyData→Option Bool
 | .int i,.int j=>some (i==j)
 | .str x,.str y=>some (x==y)
 | .bool a,.bool b=>some (a==b)
 | d,e=>if J4 d&&J4 e&&(PySem.SeqAt.shaped d&&PySem.SeqAt.shaped e) then some (PyData.eqv d e) else none
noncomputable def o7 (d e:PyData):Option Vl:=(Vr d e).map fun b=>.im (.bool b)
noncomputable def t6 (d e:PyData):Option Vl:=(Vr d e).map fun b=>.im (.bool (!b))
theorem Fb (hu:X.A.units + 64 < cLine):gW X (compareOp .Eq) (fun x y H Q=>∃d e,RX H d x∧RX H e y∧PySem.SeqAt.shaped d=true∧PySem.SeqAt.shaped e=true∧Q (.bl (PyData.eqv d e)) H):=by
 intro pins s σ H x y v u Q I rx ry h
 obtain ⟨d,e,hd,he,h1,h2,q⟩:=h
 obtain ⟨as,ra⟩:=RD.reads I (hd.rd (K:=X.K)) rx
 obtain ⟨bs,rb⟩:=RD.reads I (he.rd (K:=X.K)) ry
 exact PySem.SeqAt.compareEq_shaped ra rb h1 h2 hu ⟨.bl _,H,I,rfl,q⟩
noncomputable def XM:R2:=fun x y H Q=>rEq x y H Q∨∃d e,RX H d x∧RX H e y∧PySem.SeqAt.shaped d=true∧PySem.SeqAt.shaped e=true∧Q (.bl (PyData.eqv d e)) H
noncomputable def XN:R2:=fun x y H Q=>rNe x y H Q∨∃d e,RX H d x∧RX H e y∧PySem.SeqAt.shaped d=true∧PySem.SeqAt.shaped e=true∧Q (.bl (!PyData.eqv d e)) H
theorem j7 (hu:X.A.units + 64 < cLine):gW X (compareOp .Eq) XM:=W8.or (Fb hu)
theorem zG (hu:X.A.units + 64 < cLine):gW X (compareOp .NotEq) XN:=W9.or (Es hu)
theorem yh {d e:PyData} {b:Bool} (h:Vr d e=some b):(gG d=true∧gG e=true∧Uw (toV d) (toV e)=true∧b=decide (toV d=toV e))∨(J4 d=true∧J4 e=true∧PySem.SeqAt.shaped d=true∧PySem.SeqAt.shaped e=true∧b=PyData.eqv d e):=by
 unfold Vr at h
 split at h
 ·cases h; exact .inl ⟨rfl,rfl,rfl,yX.symm⟩
 ·cases h; exact .inl ⟨rfl,rfl,rfl,yZ.symm⟩
 ·cases h; exact .inl ⟨rfl,rfl,rfl,DP.symm⟩
 ·split at h
  ·rename_i q
   cases h
   rw [Bool.and_eq_true,Bool.and_eq_true,Bool.and_eq_true] at q
   exact .inr ⟨q.1.1,q.1.2,q.2.1,q.2.2,rfl⟩
  ·cases h
theorem ql {K:PySem.W.Frag}:oG K XM o7:=by
 intro Z Θ env C σ H x y dx dy res S bx jh e Q q
 unfold o7 at e
 cases h:Vr dx dy with
 | none=>rw [h] at e; cases e
 | some b=>
  rw [h] at e
  cases e
  have fin:=q (.bl b) H (bF.refl _ _) (aZ S rfl rfl)
  rcases yh h with ⟨f1,f2,sc,eb⟩ | ⟨n1,n2,s1,s2,eb⟩
  ·rw [bx.flat f1,jh.flat f2]
   rw [eb] at fin
   exact .inl ⟨sc,fin⟩
  ·rw [eb] at fin
   exact .inr ⟨dx,dy,bx.rx n1,jh.rx n2,s1,s2,fin⟩
theorem Hz {K:PySem.W.Frag}:oG K XN t6:=by
 intro Z Θ env C σ H x y dx dy res S bx jh e Q q
 unfold t6 at e
 cases h:Vr dx dy with
 | none=>rw [h] at e; cases e
 | some b=>
  rw [h] at e
  cases e
  have fin:=q (.bl (!b)) H (bF.refl _ _) (aZ S rfl rfl)
  rcases yh h with ⟨f1,f2,sc,eb⟩ | ⟨n1,n2,s1,s2,eb⟩
  ·rw [bx.flat f1,jh.flat f2]
   rw [eb] at fin
   exact .inl ⟨sc,fin⟩
  ·rw [eb] at fin
   exact .inr ⟨dx,dy,bx.rx n1,jh.rx n2,s1,s2,fin⟩
noncomputable def strLt (x y:Str):Bool:=decide (x.cps.toList < y.cps.toList)
noncomputable def Tp (xs ys:List PyData):Option Bool:=match keysOf xs,keysOf ys with
 | some ks,some js=>if ks.map fV=js.map fV then some (jC ks js) else none
 | _,_=>none
noncomputable def Fd:PyData→PyData→Option Vl
 | .int i,.int j=>some (.im (.bool (decide (i < j))))
 | .str x,.str y=>some (.im (.bool (strLt x y)))
 | .tuple xs,.tuple ys=>(Tp xs ys).map fun b=>.im (.bool b)
 | _,_=>none
theorem iM {E:Hp}:∀{ds:List PyData} {ks:List Key} {vs:List V},keysOf ds=some ks→d8 E ds vs→vs=ks.map kV
 | [],ks,vs,h,r=>by cases h; exact r
 | d::ds,ks,vs,h,r=>by
  unfold keysOf at h
  split at h
  ·rename_i k t h1 h2
   cases h
   obtain ⟨u,w,e1,q,s⟩:=r
   rw [e1,iM h2 s]
   have:u=kV k:=by
    cases d <;> first | (cases h1; exact q) | cases h1
   rw [this]
   rfl
  ·cases h
noncomputable def aaf:R2:=fun x y H Q=>(∃a b,x=kV a∧y=kV b∧fV a=fV b∧Q (.bl (kLt a b)) H)∨∃a b ks js,x=.ref a∧y=.ref b∧H a=some (.tup (ks.map kV))∧H b=some (.tup (js.map kV))∧ks.map fV=js.map fV∧Q (.bl (jC ks js)) H
theorem Tq {K:PySem.W.Frag}:oG K aaf Fd:=by
 intro Z Θ env C σ H x y dx dy res S bx jh e Q q
 unfold Fd at e
 split at e
 ·cases e
  cases bx.int; cases jh.int
  exact .inl ⟨.inl _,.inl _,rfl,rfl,rfl,q _ _ (bF.refl _ _) (aZ S rfl rfl)⟩
 ·cases e
  cases bx.str; cases jh.str
  exact .inl ⟨.inr _,.inr _,rfl,rfl,rfl,q _ _ (bF.refl _ _) (aZ S rfl rfl)⟩
 ·rename_i xs ys
  unfold Tp at e
  split at e
  ·rename_i ks js h1 h2
   split at e
   ·rename_i ht
    cases e
    obtain ⟨a,vs,rfl,ha,r1⟩:=bx.tup
    obtain ⟨b,ws,rfl,hb,r2⟩:=jh.tup
    rw [iM h1 r1] at ha
    rw [iM h2 r2] at hb
    exact .inr ⟨a,b,ks,js,rfl,rfl,ha,hb,ht,q _ _ (bF.refl _ _) (aZ S rfl rfl)⟩
   ·cases e
  ·cases e
 ·cases e
noncomputable def wX:PyData→PyData→Option Vl
 | .int i,.int j=>some (.im (.bool (decide (i≤j))))
 | .str x,.str y=>some (.im (.bool (!strLt y x)))
 | _,_=>none
noncomputable def XQ:R2:=fun x y H Q=>(Jr fun i j=>.bl (decide (i≤j))) x y H Q∨∃i j,x=.str i∧y=.str j∧Q (.bl (!(decide (j.cps.toList < i.cps.toList)))) H
theorem zH:gW X (compareOp .LtE) XQ:=Xa.or JM
theorem HB {K:PySem.W.Frag}:oG K XQ wX:=by
 intro Z Θ env C σ H x y dx dy res S bx jh e Q q
 unfold wX at e
 split at e
 ·cases e
  cases bx.int; cases jh.int
  exact .inl ⟨_,_,rfl,rfl,q _ _ (bF.refl _ _) (aZ S rfl rfl)⟩
 ·cases e
  cases bx.str; cases jh.str
  exact .inr ⟨_,_,rfl,rfl,q _ _ (bF.refl _ _) (aZ S rfl rfl)⟩
 ·cases e
noncomputable def QV:PyData→PyData→Option Vl
 | .int i,.int j=>some (.im (.bool (decide (j < i))))
 | _,_=>none
noncomputable def M5:PyData→PyData→Option Vl
 | .int i,.int j=>some (.im (.bool (decide (j≤i))))
 | _,_=>none
theorem XR {K:PySem.W.Frag}:oG K (Jr fun i j=>.bl (decide (j < i))) QV:=zB fun dx dy res e=>by
 unfold QV at e
 split at e <;> cases e
 exact ⟨_,_,_,rfl,rfl,rfl,rfl,rfl⟩
theorem Tr {K:PySem.W.Frag}:oG K (Jr fun i j=>.bl (decide (j≤i))) M5:=zB fun dx dy res e=>by
 unfold M5 at e
 split at e <;> cases e
 exact ⟨_,_,_,rfl,rfl,rfl,rfl,rfl⟩
noncomputable def isNone:PyData→Bool
 | .none=>true
 | _=>false
noncomputable def BJ (d e:PyData):Option Vl:=if isNone e then some (.im (.bool (isNone d))) else none
theorem BK {Z Θ:List Addr} {env:En} {σ:St} {H:Hp} {x:V} {d:PyData} (h:d9 Z Θ env σ H d x):decide (x=V.non)=isNone d:=by
 cases d <;> first
  | (cases (show x=_ from h); rfl)
  | (obtain ⟨a,vs,e,_⟩:=h; subst e; rfl)
theorem M6 {K:PySem.W.Frag}:oG K (fun x y H Q=>y=.non∧Q (.bl (decide (x=.non))) H) BJ:=by
 intro Z Θ env C σ H x y dx dy res S bx jh e Q q
 unfold BJ at e
 split at e
 ·rename_i hn
  cases e
  have hy:y=.non:=of_decide_eq_true ((BK jh).trans hn)
  exact ⟨hy,by rw [BK bx]; exact q _ _ (bF.refl _ _) (aZ S rfl rfl)⟩
 ·cases e
end
end L2
namespace L2
open PySem PySem.Spec PyProof.Rows PySem.W
section
variable {X:Cx} {pins:List (Addr×Obj)} {σ:St} {H:Hp} {s:Shared} {a b:Addr}
theorem Inv.Y5 (I:Inv X pins σ H s) (h:H a=some (.dK [])):Inv X pins σ (upd H a (.dT [])) s:=by
 obtain ⟨z,hm,vs,r,o,es,ep,h1,h2,h3,h4,h5,h6⟩:=I.hok a _ h
 cases r
 have e0:es.toList=[]:=by
  cases hh:es.toList with
  | nil=>rfl
  | cons x xs=>rw [hh] at h5; cases h5
 have:=nF (t':=s.toks) (ob:=.dT []) I (by rw [h]; trivial) (Heap.SameBut.refl a s.heap) ⟨_,h1⟩ ⟨Nat.zero_le _,hm,[],.nil,o,es,ep,h1,h2,h3,e0,List.nodup_nil⟩
 exact this
theorem Inv.reT (I:Inv X pins σ (upd H a (.dT [])) s) (h:H a=some (.dK [])):Inv X pins σ H s:=by
 obtain ⟨z,hm,xs,r,o,es,ep,h1,h2,h3,h4,h5⟩:=I.hok a _ aH
 cases r
 have e0:es=#[]:=by
  cases es
  simp at h4
  rw [h4]
 subst e0
 have:=nF (t':=s.toks) (ob:=.dK []) I (by rw [aH]; trivial) (Heap.SameBut.refl a s.heap) ⟨_,h1⟩ (Eh (Nat.zero_le _) hm .nil ⟨o,#[],ep,h1,h2,h3,fun i hi=>absurd hi (by simp),.nil,List.nodup_nil⟩)
 rw [GC] at this
 have e:upd H a (.dK [])=H:=by
  funext b
  by_cases hb:b=a
  ·subst hb; rw [aH,h]
  ·exact aJ hb
 rw [e] at this
 exact this
end
noncomputable def M7 (H:Hp) (a:Addr) (y:V) (r:Option V):Prop:=nZ H a y r∨(H a=some (.dK [])∧(∃(b:Addr) (ks:List Key),y=.ref b∧H b=some (.tup (ks.map kV)))∧r=none)
section
variable {X:Cx} {pins:List (Addr×Obj)} {σ:St} {H:Hp} {s:Shared} {a:Addr} {y v:V} {u r:Value} {o:Option V} {A:Around} {E:Value→Shared→Prop}
theorem M7.re (ha:H a=some (.dK [])) {b:Addr} {ks:List Key} (hb:H b=some (.tup (ks.map kV))):nZ (upd H a (.dT [])) a (.ref b) none:=by
 have:(upd H a (.dT [])) b=some (.tup (ks.map kV)):=by rw [aJ (KR hb ha (fun z=>nomatch z))]; exact hb
 exact nZ.t (kvs:=[]) (k:=ks) aH this
theorem XS {Q:Value→Shared→Prop} (hu:A.units + 1 < cLine) (I:Inv X pins σ H s) (g:M7 H a y o) (ry:RelV y u) (h:∀s',Inv X pins σ H s'→Q (.bool o.isSome) s'):wpAny (model X.prog X.w) A (compareOp .In u (.ref a)) Q E s:=by
 rcases g with g | ⟨ha,⟨b,ks,rfl,hb⟩,rfl⟩
 ·exact Xn hu I g ry h
 ·exact Xn hu (I.Y5 ha) (M7.re ha hb) ry fun s' I'=>h s' (I'.reT ha)
theorem M9 {Q:Value→Shared→Prop} (hu:A.units + 1 < cLine) (I:Inv X pins σ H s) (g:M7 H a y o) (ry:RelV y u) (h:∀s',Inv X pins σ H s'→Q (.bool (!o.isSome)) s'):wpAny (model X.prog X.w) A (compareOp .NotIn u (.ref a)) Q E s:=by
 rcases g with g | ⟨ha,⟨b,ks,rfl,hb⟩,rfl⟩
 ·exact G4 hu I g ry h
 ·exact G4 hu (I.Y5 ha) (M7.re ha hb) ry fun s' I'=>h s' (I'.reT ha)
theorem Vs (hu:X.A.units + 1 < cLine):gW X (compareOp .In) (fun y x H Q=>∃a o,x=.ref a∧M7 H a y o∧Q (.bl o.isSome) H):=by
 intro pins s σ H x y v u Q I rx ry h
 obtain ⟨a,o,rfl,g,q⟩:=h
 cases ry
 exact XS hu I g rx fun s' I'=>⟨.bl _,H,I',rfl,q⟩
theorem J6 (hu:X.A.units + 1 < cLine):gW X (compareOp .NotIn) (fun y x H Q=>∃a o,x=.ref a∧M7 H a y o∧Q (.bl (!o.isSome)) H):=by
 intro pins s σ H x y v u Q I rx ry h
 obtain ⟨a,o,rfl,g,q⟩:=h
 cases ry
 exact M9 hu I g rx fun s' I'=>⟨.bl _,H,I',rfl,q⟩
theorem QW (hu:X.A.units + 1 < cLine):KH X (fun x y H Q=>∃a v,x=.ref a∧nZ H a y (some v)∧Q v H):=by
 intro value slice pins s σ H x y v u Q I rx ry h hs
 obtain ⟨a,z,rfl,g,q⟩:=h
 cases rx
 have hT:=Ay I g
 have h2:wpAny (model X.prog X.w) X.A (getItem (.ref a) u) (EP X pins σ Q) X.xe s:=JC hu I g ry fun w' s' I' r'=>⟨z,H,I',r',q⟩
 unfold subscriptTail
 refine wpAny_bind ?_
 rw [getitemInPython_of_ne hT.not_modules]
 refine wpAny_bind (wpAny_specialOf hT PySem.F.slot_dict_getitem.lookup ?_)
 have fin:wpAny (model X.prog X.w) X.A (subscripted slice false (.ref a) u) (fun r s₃=>wpAny (model X.prog X.w) X.A (letTemporaryGo value (.ref a) r >>= fun _=>pure r) (EP X pins σ Q) X.xe s₃) X.xe s:=by
  rw [hs]
  exact wpAny_operating (wpAny_mono h2 (fun r s₃ h₃=>wpAny_bind (wpAny_letTemporaryGo (wpAny_pure h₃))) fun _ _ x=>x)
 first
  | exact wpAny_pure (wpAny_bind fin)
  | exact wpAny_bind (wpAny_pure (wpAny_bind fin))
  | exact wpAny_bind fin
end
noncomputable def iT {κ:Type} [DecidableEq κ] (f:PyData→Option κ) (k:κ):List (PyData×PyData)→Option PyData
 | []=>none
 | p::r=>if f p.1=some k then some p.2 else iT f k r
noncomputable def qp (kvs:List (PyData×PyData)) (d:PyData):Option (Option PyData):=match d7 d with
 | some k=>if (cF d7 kvs).isSome then some (iT d7 k kvs) else none
 | none=>match cW d with
  | some ks=>if (cF cW kvs).isSome then some (iT cW ks kvs) else none
  | none=>none
theorem uU {κ:Type} [DecidableEq κ] {f:PyData→Option κ} {k:κ} {E:Hp}:∀{kvs:List (PyData×PyData)} {ks:List κ} {vs:List V},cF f kvs=some ks→pN E kvs vs→
  (∃d v,iT f k kvs=some d∧nY (ks.zip vs) k=some v∧RZ E d v)∨(iT f k kvs=none∧nY (ks.zip vs) k=none)
 | [],ks,vs,h,r=>by
  cases h
  cases (show vs=[] from r)
  exact .inr ⟨rfl,rfl⟩
 | (p,d)::kvs,ks,vs,h,r=>by
  unfold cF at h
  split at h
  ·rename_i k' t h1 h2
   cases h
   obtain ⟨v,w,rfl,q,s⟩:=r
   by_cases e:k'=k
   ·subst e
    refine .inl ⟨d,v,?_,?_,q⟩
    ·unfold iT; rw [if_pos h1]
    ·exact pX (p:=(k',v)) rfl
   ·have e1:iT f k ((p,d)::kvs)=iT f k kvs:=by
     show (if f p=some k then some d else iT f k kvs)=_
     rw [if_neg]
     intro z
     rw [h1] at z
     exact e (Option.some.inj z)
    have e2:nY ((k'::t).zip (v::w)) k=nY (t.zip w) k:=pY (p:=(k',v)) e
    rw [e1,e2]
    exact uU h2 s
  ·cases h
theorem iU {κ:Type} {f:PyData→Option κ}:∀{kvs:List (PyData×PyData)} {ks:List κ},cF f kvs=some ks→ks.length=kvs.length
 | [],ks,h=>by cases h; rfl
 | p::kvs,ks,h=>by
  unfold cF at h
  split at h
  ·rename_i k' t h1 h2
   cases h
   rw [List.length_cons,List.length_cons,iU h2]
  ·cases h
theorem Vt {E:Hp} {d:PyData} {k:Key} {v:V} (h:d7 d=some k) (r:RZ E d v):v=kV k:=by
 cases d <;> first | (cases h; exact r) | cases h
theorem Vu {d:PyData} {k:Key} {ks:List Key} (h:d7 d=some k) (g:cW d=some ks):False:=by
 cases d <;> first | (cases h; done) | (cases g; done)
section
variable {K:PySem.W.Frag} {Z Θ:List Addr} {env:En} {C:Ce} {σ:St} {H:Hp} {x y:V}
theorem jV {kvs:List (PyData×PyData)} {ks:List Key} {js:List (List Key)} (h:cF d7 kvs=some ks) (g:cF cW kvs=some js):kvs=[]:=by
 cases kvs with
 | nil=>rfl
 | cons p r=>
  unfold cF at h g
  split at h
  ·rename_i h1 h2
   split at g
   ·rename_i h3 h4
    exact (Vu h1 h3).elim
   ·cases g
  ·cases h
theorem d9.get {kvs:List (PyData×PyData)} {d:PyData} {o:Option PyData} (h:d9 Z Θ env σ H (.dict kvs) x) (hy:d9 Z Θ env σ H d y) (e:qp kvs d=some o):
  ∃a r,x=.ref a∧M7 H a y r∧((∃v,r=some v∧∃d',o=some d'∧RZ (er (aK Z Θ env σ) H) d' v∧nZ H a y (some v))∨(r=none∧o=none)):=by
 obtain ⟨a,vs,rfl,dt,rd⟩:=h.dct
 unfold qp at e
 split at e
 ·rename_i k hk
  split at e
  ·rename_i hs
   cases e
   have yk:y=kV k:=by
    cases d <;> first | (cases hk; exact hy) | cases hk
   have dk:∃ks,cF d7 kvs=some ks∧H a=some (.dK (ks.zip vs)):=by
    rcases dt with h | ⟨ks,⟨ne,h2⟩,_⟩
    ·exact h
    ·obtain ⟨ks',h1⟩:=Option.isSome_iff_exists.mp hs
     exact absurd (jV h1 h2) ne
   obtain ⟨ks,h1,ha⟩:=dk
   have g:=nZ.k (k:=k) ha
   rw [←yk] at g
   rcases uU (k:=k) h1 rd with ⟨d',v,e1,e2,r⟩ | ⟨e1,e2⟩
   ·rw [e2] at g
    exact ⟨a,some v,rfl,.inl g,.inl ⟨v,rfl,d',e1,r,g⟩⟩
   ·rw [e2] at g
    exact ⟨a,none,rfl,.inl g,.inr ⟨rfl,e1⟩⟩
  ·cases e
 ·split at e
  ·rename_i ks hks
   split at e
   ·rename_i hs
    cases e
    obtain ⟨b,hb,rfl⟩:∃b,H b=some (.tup (ks.map kV))∧y=.ref b:=by
     cases d <;> first | cases hks | skip
     obtain ⟨b,ws,rfl,hb,r⟩:=hy.tup
     rw [iM hks r] at hb
     exact ⟨b,hb,rfl⟩
    rcases dt with ⟨js,h1,ha⟩ | ⟨js,⟨ne,h1⟩,ha⟩
    ·obtain ⟨js',h2⟩:=Option.isSome_iff_exists.mp hs
     have:=jV h1 h2
     subst this
     cases h1
     exact ⟨a,none,rfl,.inr ⟨ha,⟨b,ks,rfl,hb⟩,rfl⟩,.inr ⟨rfl,rfl⟩⟩
    ·have g:=nZ.t (k:=ks) ha hb
     rcases uU (k:=ks) h1 rd with ⟨d',v,e1,e2,r⟩ | ⟨e1,e2⟩
     ·rw [e2] at g
      exact ⟨a,some v,rfl,.inl g,.inl ⟨v,rfl,d',e1,r,g⟩⟩
     ·rw [e2] at g
      exact ⟨a,none,rfl,.inl g,.inr ⟨rfl,e1⟩⟩
   ·cases e
  ·cases e
end
noncomputable def inD (d:PyData) (ds:List PyData):Bool:=ds.any fun e=>Lx (toV e) (toV d)
noncomputable def inB (d:PyData):PyData→Option Bool
 | .list ds=>if gG d&&ds.all gG then some (inD d ds) else none
 | .tuple ds=>if gG d&&ds.all gG then some (inD d ds) else none
 | .dict kvs=>(qp kvs d).map (·.isSome)
 | _=>none
noncomputable def BL (d e:PyData):Option Vl:=(inB d e).map fun b=>.im (.bool b)
noncomputable def iI (d e:PyData):Option Vl:=(inB d e).map fun b=>.im (.bool (!b))
noncomputable def XX (K:PySem.W.Frag):R2:=fun x y H Q=>YX K false x y H Q∨∃a o,y=.ref a∧M7 H a x o∧Q (.bl o.isSome) H
noncomputable def HD (K:PySem.W.Frag):R2:=fun x y H Q=>YX K true x y H Q∨∃a o,y=.ref a∧M7 H a x o∧Q (.bl (!o.isSome)) H
theorem Fe {X:Cx} (hu:X.A.units + 1 < cLine):gW X (compareOp .In) (XX X.K):=JB.or (Vs hu)
theorem rF {X:Cx} (hu:X.A.units + 1 < cLine):gW X (compareOp .NotIn) (HD X.K):=zg.or (J6 hu)
theorem rG {d:PyData} (f:gG d=true):jR (toV d)=true:=by
 cases d <;> first | rfl | cases f
theorem Tt {d:PyData} {ds:List PyData}:inV (toV d) (ds.map toV)=inD d ds:=by
 unfold inV inD
 rw [List.any_map]
 rfl
theorem HF {ds:List PyData} (f:ds.all gG=true):(ds.map toV).all jR=true:=by
 rw [List.all_map,List.all_eq_true]
 intro d hd
 exact rG (List.all_eq_true.mp f d hd)
theorem BP {K:PySem.W.Frag} {Z Θ:List Addr} {env:En} {σ:St} {H:Hp} {x y:V} {dx dy:PyData} {b:Bool} (bx:d9 Z Θ env σ H dx x) (jh:d9 Z Θ env σ H dy y) (e:inB dx dy=some b):
  (∃p xs,y=.ref p∧(cO K H p xs∨eX K H p xs)∧jR x=true∧xs.all jR=true∧inV x xs=b)∨∃a o,y=.ref a∧M7 H a x o∧o.isSome=b:=by
 unfold inB at e
 split at e
 ·split at e
  ·rename_i ds hf
   rw [Bool.and_eq_true] at hf
   cases e
   obtain ⟨a,vs,rfl,ha,r⟩:=jh.lst
   rw [uR hf.2 r] at ha
   rw [bx.flat hf.1]
   exact .inl ⟨a,_,rfl,.inl (cO.of ha),rG hf.1,HF hf.2,Tt⟩
  ·cases e
 ·split at e
  ·rename_i ds hf
   rw [Bool.and_eq_true] at hf
   cases e
   obtain ⟨a,vs,rfl,ha,r⟩:=jh.tup
   rw [uR hf.2 r] at ha
   rw [bx.flat hf.1]
   exact .inl ⟨a,_,rfl,.inr (eX.of ha),rG hf.1,HF hf.2,Tt⟩
  ·cases e
 ·rename_i kvs
  cases hl:qp kvs dx with
  | none=>rw [hl] at e; cases e
  | some o=>
   rw [hl] at e
   cases e
   obtain ⟨a,r,rfl,g,q⟩:=jh.get bx hl
   refine .inr ⟨a,r,rfl,g,?_⟩
   rcases q with ⟨v,rfl,d',rfl,_⟩ | ⟨rfl,rfl⟩ <;> rfl
 ·cases e
theorem Nb {K:PySem.W.Frag}:oG K (XX K) BL:=by
 intro Z Θ env C σ H x y dx dy res S bx jh e Q q
 unfold BL at e
 cases h:inB dx dy with
 | none=>rw [h] at e; cases e
 | some b=>
  rw [h] at e
  cases e
  have fin:=q (.bl b) H (bF.refl _ _) (aZ S rfl rfl)
  rcases BP (K:=K) bx jh h with ⟨p,xs,e1,e2,e3,e4,e5⟩ | ⟨a,o,e1,e2,e3⟩
  ·rw [←e5] at fin
   exact .inl ⟨p,xs,e1,e2,e3,e4,fin⟩
  ·rw [←e3] at fin
   exact .inr ⟨a,o,e1,e2,fin⟩
theorem uV {K:PySem.W.Frag}:oG K (HD K) iI:=by
 intro Z Θ env C σ H x y dx dy res S bx jh e Q q
 unfold iI at e
 cases h:inB dx dy with
 | none=>rw [h] at e; cases e
 | some b=>
  rw [h] at e
  cases e
  have fin:=q (.bl (!b)) H (bF.refl _ _) (aZ S rfl rfl)
  rcases BP (K:=K) bx jh h with ⟨p,xs,e1,e2,e3,e4,e5⟩ | ⟨a,o,e1,e2,e3⟩
  ·rw [←e5] at fin
   exact .inl ⟨p,xs,e1,e2,e3,e4,fin⟩
  ·rw [←e3] at fin
   exact .inr ⟨a,o,e1,e2,fin⟩
noncomputable def Px:PyData→PyData→Option PyData
 | .list ds,.int i=>jB ds i
 | .tuple ds,.int i=>jB ds i
 | .str z,.int i=>if z.length≤LIM then (jB z.cps.toList i).map fun c=>.str ⟨#[c]⟩ else none
 | .dict kvs,d=>match qp kvs d with
  | some (some e)=>some e
  | _=>none
 | _,_=>none
noncomputable def bz (d e:PyData):Option Vl:=(Px d e).map .im
noncomputable def X3 (K:PySem.W.Frag):R2:=fun x y H Q=>rIx K x y H Q∨∃a v,x=.ref a∧nZ H a y (some v)∧Q v H
theorem aW {X:Cx} (hu:X.A.units + 1 < cLine):KH X (X3 X.K):=U4.or (QW hu)
theorem HH {E:Hp} {ds:List PyData} {vs:List V} {i:Int} {d:PyData} (r:d8 E ds vs) (e:jB ds i=some d):∃v,jB vs i=some v∧RZ E d v:=by
 unfold jB at e ⊢
 rw [bL r]
 cases h:Ec ds.length i with
 | none=>rw [h] at e; cases e
 | some j=>
  rw [h] at e
  exact j6 r e
theorem bN {K:PySem.W.Frag}:oG K (X3 K) bz:=by
 intro Z Θ env C σ H x y dx dy res S bx jh e Q q
 unfold bz at e
 cases h:Px dx dy with
 | none=>rw [h] at e; cases e
 | some d=>
  rw [h] at e
  cases e
  unfold Px at h
  split at h
  ·obtain ⟨a,vs,rfl,ha,r⟩:=bx.lst
   cases jh.int
   obtain ⟨v,e1,r1⟩:=HH r h
   exact .inl (.inl ⟨a,vs,_,v,rfl,rfl,cO.of ha,e1,q _ _ (bF.refl _ _) ⟨S,r1⟩⟩)
  ·obtain ⟨a,vs,rfl,ha,r⟩:=bx.tup
   cases jh.int
   obtain ⟨v,e1,r1⟩:=HH r h
   exact .inl (.inr (.inl ⟨a,vs,_,v,rfl,rfl,eX.of ha,e1,q _ _ (bF.refl _ _) ⟨S,r1⟩⟩))
  ·split at h
   ·rename_i z i hz
    cases bx.str
    cases jh.int
    cases hc:jB z.cps.toList i with
    | none=>rw [hc] at h; cases h
    | some c=>
     rw [hc] at h
     cases h
     exact .inl (.inr (.inr ⟨z,i,c,rfl,rfl,dO hz,hc,q _ _ (bF.refl _ _) (aZ S rfl rfl)⟩))
   ·cases h
  ·split at h
   ·rename_i kvs e' hl
    cases h
    obtain ⟨a,r,rfl,g,hq⟩:=bx.get jh hl
    rcases hq with ⟨v,rfl,d',e1,r1,g1⟩ | ⟨_,e1⟩
    ·cases e1
     exact .inr ⟨a,v,rfl,g1,q _ _ (bF.refl _ _) ⟨S,r1⟩⟩
    ·cases e1
   ·cases h
  ·cases h
end L2
namespace L2
open PySem PySem.Spec PyProof.Rows PySem.W
noncomputable def truD:PyData→Option Bool
 | .none=>some false
 | .bool b=>some b
 | .int i=>some (i != 0)
 | .str x=>if x.length≤LIM then some ((x.length:Int) != 0) else none
 | .list ds=>some (!ds.isEmpty)
 | .tuple ds=>some (!ds.isEmpty)
 | .dict kvs=>if (cF d7 kvs).isSome then some (!kvs.isEmpty) else none
noncomputable def fTru (f:FB):FT:=fun env C=>match f env C with
 | some (d,_,C')=>match truD d with
  | some b=>some (b,C')
  | none=>none
 | none=>none
noncomputable def fTst (f:FE):FT:=fun env C=>match f env C with
 | some (.im (.bool b),_,C')=>some (b,C')
 | _=>none
noncomputable def oH (f:FT):FT:=fun env C=>match f env C with
 | some (b,C')=>some (!b,C')
 | none=>none
noncomputable def qt (f g:FT):FT:=fun env C=>match f env C with
 | some (true,C')=>g env C'
 | some (false,C')=>some (false,C')
 | none=>none
noncomputable def Ff (f g:FT):FT:=fun env C=>match f env C with
 | some (true,C')=>some (true,C')
 | some (false,C')=>g env C'
 | none=>none
theorem Vv {K:PySem.W.Frag} {Z Θ:List Addr} {env:En} {σ:St} {H:Hp} {x:V} {d:PyData} {b:Bool} (h:d9 Z Θ env σ H d x) (e:truD d=some b):Ux K x H b:=by
 cases d with
 | none=>cases e; cases (show x=_ from h); rfl
 | bool c=>cases e; cases (show x=_ from h); rfl
 | int i=>cases e; cases (show x=_ from h); rfl
 | str z=>
  simp only [truD] at e
  split at e
  ·rename_i hz; cases e; cases (show x=_ from h); exact ⟨dO hz,rfl⟩
  ·cases e
 | list ds=>
  cases e
  obtain ⟨a,vs,rfl,ha,r⟩:=h.lst
  refine .inl ⟨vs,cO.of ha,?_⟩
  have:=bL r
  cases ds <;> cases vs <;> first | rfl | cases this
 | tuple ds=>
  cases e
  obtain ⟨a,vs,rfl,ha,r⟩:=h.tup
  refine .inr (.inl ⟨vs,eX.of ha,?_⟩)
  have:=bL r
  cases ds <;> cases vs <;> first | rfl | cases this
 | dict kvs=>
  simp only [truD] at e
  split at e
  ·rename_i hs
   cases e
   obtain ⟨a,vs,rfl,da,r⟩:=h.dct
   rcases da with ⟨ks,h1,ha⟩ | ⟨ks,⟨ne,h2⟩,ha⟩
   ·refine .inr (.inr ⟨_,ha,?_⟩)
    have l1:=iU h1
    have l2:=uf r
    cases kvs <;> cases ks <;> cases vs <;> first | rfl | cases l1 | cases l2
   ·obtain ⟨ks',h1⟩:=Option.isSome_iff_exists.mp hs
    exact absurd (jV h1 h2) ne
  ·cases e
section
variable {X:Cx} {a b:Expr} {pos:Pos}
theorem jF {f:FB} (h:PE X a (mL X.K f)) (he:∀whole,isTrue a X.env whole=(do let v ←whole; standAt a.pos; holding [v] (truthy v)):=by intro _; rfl):PT X a (lX X.K (fTru f)):=
 (Lj h he).weak fun σ H Q aV=>by
  obtain ⟨Z,Θ,env,C,b,C',S,hf,q⟩:=aV
  unfold fTru at hf
  split at hf
  ·rename_i d e1 C1 h1
   split at hf
   ·rename_i b' hb
    cases hf
    exact ⟨Z,Θ,env,C,d,e1,C',S,h1,fun v H' k f S' bo=>⟨b,Vv bo hb,q H' k (S.go k S'.cell)⟩⟩
   ·cases hf
  ·cases hf
theorem BR {K:PySem.W.Frag} {t:TE} {f:FE} (w:∀σ H Q,tE K f σ H Q→t σ H Q):∀σ H Q,lX K (fTst f) σ H Q→Lg t σ H Q:=by
 rintro σ H Q ⟨Z,Θ,env,C,b,C',S,hf,q⟩
 unfold fTst at hf
 split at hf
 ·rename_i b' e1 C1 h1
  cases hf
  refine w _ _ _ ⟨Z,Θ,env,C,.im (.bool b),e1,C',S,h1,fun v H' k f R=>?_⟩
  obtain ⟨S',r⟩:=R
  exact ⟨b,r,q H' k (S.go k S'.cell)⟩
 ·cases hf
theorem cX {o:CmpOp} {r:R2} {op:PyData→PyData→Option Vl} {fa fb:FB} (ho:gW X (compareOp o) r) (L:oG X.K r op) (ha:PE X a (mL X.K fa)) (hb:PE X b (mL X.K fb)) (hm:behindInMarks o b=false):
  PT X (.Compare a [o] [b] pos) (lX X.K (fTst (aG op fa fb))):=(Qf ho ha hb hm).weak (BR (qj L))
theorem rH {f:FT} (h:PT X a (lX X.K f)):PT X (.UnaryOp .Not a pos) (lX X.K (oH f)):=(Uh h).weak fun σ H Q aV=>by
 obtain ⟨Z,Θ,env,C,b,C',S,hf,q⟩:=aV
 unfold oH at hf
 split at hf
 ·rename_i b' C1 h1
  cases hf
  exact ⟨Z,Θ,env,C,b',C',S,h1,q⟩
 ·cases hf
theorem Nf {K:PySem.W.Frag} {f g:FT}:∀σ H Q,lX K (qt f g) σ H Q→WL (lX K f) (lX K g) σ H Q:=by
 rintro σ H Q ⟨Z,Θ,env,C,b,C',S,hf,q⟩
 unfold qt at hf
 split at hf
 ·rename_i C1 h1
  exact ⟨Z,Θ,env,C,true,C1,S,h1,fun H1 k1 S1=>wO ⟨Z,Θ,env,C1,b,C',S1,hf,fun H2 k2 S2=>q H2 (k1.trans k2) S2⟩⟩
 ·rename_i C1 h1
  cases hf
  exact ⟨Z,Θ,env,C,false,C',S,h1,fun H1 k1 S1=>wN (q H1 k1 S1)⟩
 ·cases hf
theorem QX {K:PySem.W.Frag} {f g:FT}:∀σ H Q,lX K (Ff f g) σ H Q→tOr (lX K f) (lX K g) σ H Q:=by
 rintro σ H Q ⟨Z,Θ,env,C,b,C',S,hf,q⟩
 unfold Ff at hf
 split at hf
 ·rename_i C1 h1
  cases hf
  exact ⟨Z,Θ,env,C,true,C',S,h1,fun H1 k1 S1=>wO (q H1 k1 S1)⟩
 ·rename_i C1 h1
  exact ⟨Z,Θ,env,C,false,C1,S,h1,fun H1 k1 S1=>wN ⟨Z,Θ,env,C1,b,C',S1,hf,fun H2 k2 S2=>q H2 (k1.trans k2) S2⟩⟩
 ·cases hf
variable {rest:List Expr}
theorem HJ {f:FT} (h:PT X a (lX X.K f)):PW X (.BoolOp .And [a] pos) (lX X.K f):=pw_and1 h
theorem Ng {f:FT} (h:PT X a (lX X.K f)):PW X (.BoolOp .Or [a] pos) (lX X.K f):=pw_or1 h
theorem Fg {f g:FT} (h:PT X a (lX X.K f)) (hb:PW X (.BoolOp .And (b::rest) pos) (lX X.K g)):PW X (.BoolOp .And (a::b::rest) pos) (lX X.K (qt f g)):=(pw_and h hb).weak Nf
theorem Tu {f g:FT} (h:PT X a (lX X.K f)) (hb:PW X (.BoolOp .Or (b::rest) pos) (lX X.K g)):PW X (.BoolOp .Or (a::b::rest) pos) (lX X.K (Ff f g)):=(pw_or h hb).weak QX
end
noncomputable def Fi (op op':PyData→PyData→Option Vl) (fa fb fc:FB):FE:=fun env C=>match fa env C with
 | some (x,e1,C1)=>match fb e1 C1 with
  | some (y,e2,C2)=>match op x y with
   | some (.im (.bool true))=>match fc e2 C2 with
    | some (z,e3,C3)=>match op' y z with
     | some (.im (.bool b))=>some (.im (.bool b),env,C3)
     | _=>none
    | none=>none
   | some (.im (.bool false))=>some (.im (.bool false),env,C2)
   | _=>none
  | none=>none
 | none=>none
theorem Nh {K:PySem.W.Frag} {r r':R2} {op op':PyData→PyData→Option Vl} (L:oG K r op) (L':oG K r' op') {fa fb fc:FB}:∀σ H Q,tE K (Fi op op' fa fb fc) σ H Q→Lh r r' (mL K fa) (mL K fb) (mL K fc) σ H Q:=by
 rintro σ H Q ⟨Z,Θ,env,C,res,env',C',S,hf,q⟩
 unfold Fi at hf
 split at hf
 ·rename_i x e1 C1 h1
  split at hf
  ·rename_i y e2 C2 h2
   refine ⟨Z,Θ,env,C,x,e1,C1,S,h1,fun v H1 k1 f1 S1 b1=>⟨Z,Θ,e1,C1,y,e2,C2,S1,h2,fun u H2 k2 f2 S2 b2=>?_⟩⟩
   split at hf
   ·rename_i h3
    split at hf
    ·rename_i z e3 C3 h4
     split at hf
     ·rename_i b h5
      cases hf
      refine L Z Θ e2 C2 σ H2 v u x y _ S2 (b1.go S1 k2 f2) b2 h3 _ fun w H3 k3 R=>⟨true,R.2,wO ⟨Z,Θ,e2,C2,z,e3,C',R.1,h4,fun w2 H4 k4 f4 S4 b4=>?_⟩⟩
      refine L' Z Θ e3 C' σ H4 u w2 y z _ S4 ((b2.go S2 k3 (Fz.refl _)).go R.1 k4 f4) b4 h5 Q fun w3 H5 k5 R5=>?_
      have k:=(((k1.trans k2).trans k3).trans k4).trans k5
      exact q w3 H5 k (Fz.refl _) ⟨S.go k R5.1.cell,R5.2⟩
     ·cases hf
    ·cases hf
   ·rename_i h3
    cases hf
    refine L Z Θ e2 C' σ H2 v u x y _ S2 (b1.go S1 k2 f2) b2 h3 _ fun w H3 k3 R=>⟨false,R.2,wN ?_⟩
    have k:=(k1.trans k2).trans k3
    exact q _ H3 k (Fz.refl _) ⟨S.go k R.1.cell,rfl⟩
   ·cases hf
  ·cases hf
 ·cases hf
section
variable {X:Cx} {a b c:Expr} {pos:Pos} {r r':R2} {o o':CmpOp} {op op':PyData→PyData→Option Vl} {fa fb fc:FB}
theorem Ni (ho:gW X (compareOp o) r) (L:oG X.K r op) (ho':gW X (compareOp o') r') (L':oG X.K r' op') (ha:PE X a (mL X.K fa)) (hb:PE X b (mL X.K fb)) (hc:PE X c (mL X.K fc))
  (hm:lastMarks [o,o'] [b,c]=false:=by with_unfolding_all rfl):PT X (.Compare a [o,o'] [b,c] pos) (lX X.K (fTst (Fi op op' fa fb fc))):=(Li ho ho' ha hb hc hm).weak (BR (Nh L L'))
end
noncomputable def tD (f g:FE):FE:=fun env C=>match f env C with
 | some (.im (.bool true),_,C')=>g env C'
 | some (.im (.bool false),_,C')=>some (.im (.bool false),env,C')
 | _=>none
noncomputable def Nj (f:FE):FE:=fun env C=>match f env C with
 | some (.im (.bool b),_,C')=>some (.im (.bool (!b)),env,C')
 | _=>none
noncomputable def J7 (c:FT) (f g:FE):FE:=fun env C=>match c env C with
 | some (true,C')=>f env C'
 | some (false,C')=>g env C'
 | none=>none
noncomputable def fNeg (f:FB):FE:=fun env C=>match f env C with
 | some (.int i,_,C')=>some (.im (.int (-i)),env,C')
 | _=>none
section
variable {X:Cx} {a b c:Expr} {pos:Pos} {rest:List Expr}
theorem zJ {o} {f:FE} (h:PE X a (tE X.K f)):PE X (.BoolOp o [a] pos) (tE X.K f):=Ui h
theorem uW {f g:FE} (ha:PE X a (tE X.K f)) (hb:PE X (.BoolOp .And (b::rest) pos) (tE X.K g)):PE X (.BoolOp .And (a::b::rest) pos) (tE X.K (tD f g)):=(Uj ha hb).weak fun σ H Q aV=>by
 obtain ⟨Z,Θ,env,C,r,env',C',S,hf,q⟩:=aV
 unfold tD at hf
 split at hf
 ·rename_i e1 C1 h1
  refine ⟨Z,Θ,env,C,_,e1,C1,S,h1,fun v H1 k1 f1 R1=>⟨true,R1.2,wO ⟨Z,Θ,env,C1,r,env',C',S.go k1 R1.1.cell,hf,fun w H2 k2 f2 R2=>q w H2 (k1.trans k2) f2 (R2.from k1)⟩⟩⟩
 ·rename_i e1 C1 h1
  cases hf
  exact ⟨Z,Θ,env,C,_,e1,C',S,h1,fun v H1 k1 f1 R1=>⟨false,R1.2,wN (q _ H1 k1 (Fz.refl _) ⟨S.go k1 R1.1.cell,rfl⟩)⟩⟩
 ·cases hf
theorem Vw {f:FE} (ha:PE X a (tE X.K f)):PE X (.UnaryOp .Not a pos) (tE X.K (Nj f)):=(Uk ha).weak fun σ H Q aV=>by
 obtain ⟨Z,Θ,env,C,r,env',C',S,hf,q⟩:=aV
 unfold Nj at hf
 split at hf
 ·rename_i b e1 C1 h1
  cases hf
  exact ⟨Z,Θ,env,C,_,e1,C',S,h1,fun v H1 k1 f1 R1=>⟨b,R1.2,q _ H1 k1 (Fz.refl _) ⟨S.go k1 R1.1.cell,rfl⟩⟩⟩
 ·cases hf
theorem Tv {t:FT} {f g:FE} (hc:PT X c (lX X.K t)) (ha:PE X a (tE X.K f)) (hb:PE X b (tE X.K g)):PE X (.IfExp c a b pos) (tE X.K (J7 t f g)):=(K3 hc ha hb).weak fun σ H Q aV=>by
 obtain ⟨Z,Θ,env,C,r,env',C',S,hf,q⟩:=aV
 unfold J7 at hf
 split at hf
 ·rename_i C1 h1
  exact ⟨Z,Θ,env,C,true,C1,S,h1,fun H1 k1 S1=>wO ⟨Z,Θ,env,C1,r,env',C',S1,hf,fun w H2 k2 f2 R2=>q w H2 (k1.trans k2) f2 (R2.from k1)⟩⟩
 ·rename_i C1 h1
  exact ⟨Z,Θ,env,C,false,C1,S,h1,fun H1 k1 S1=>wN ⟨Z,Θ,env,C1,r,env',C',S1,hf,fun w H2 k2 f2 R2=>q w H2 (k1.trans k2) f2 (R2.from k1)⟩⟩
 ·cases hf
end
noncomputable def qu (K:PySem.W.Frag) (E:Hp) (Θ:List Addr):Vl→V→Prop
 | .im d,v=>RZ E d v
 | .ow _,_=>False
 | .ce n,v=>∃a,v=.ref a∧Θ[n]?=some a
 | .sc ns,v=>∃a,v=.ref a∧cO K E a (ns.map V.int)
inductive gY (K:PySem.W.Frag) (E:Hp) (Θ:List Addr):List Vl→List V→Prop
 | nil:gY K E Θ [] []
 | cons {x:Vl} {v:V} {xs:List Vl} {vs:List V}:qu K E Θ x v→gY K E Θ xs vs→gY K E Θ (x::xs) (v::vs)
theorem qu.same {K:PySem.W.Frag} {E E':Hp} {Θ:List Addr} (s:aU E E') {x:Vl} {v:V} (h:qu K E Θ x v):qu K E' Θ x v:=by
 cases x with
 | im d=>exact RZ.same s h
 | ow d=>exact h
 | ce n=>exact h
 | sc ns=>obtain ⟨a,e,q⟩:=h; exact ⟨a,e,s.seq q⟩
theorem gY.same {K:PySem.W.Frag} {E E':Hp} {Θ:List Addr} (s:aU E E') {xs:List Vl} {vs:List V} (h:gY K E Θ xs vs):gY K E' Θ xs vs:=by
 induction h with
 | nil=>exact .nil
 | cons a _ ih=>exact .cons (a.same s) ih
noncomputable def Vx (K:PySem.W.Frag) (f:FA):TA:=fun σ H Q=>∃Z Θ env C xs env' C',Sm K Z Θ env C σ H∧f env C=some (xs,env',C')∧
 ∀vs H',bF Θ H H'→Fz env env'→Sm K Z Θ env' C' σ H'→gY K (er (aK Z Θ env' σ) H') Θ xs vs→Q vs H'
noncomputable def aNil:FA:=fun env C=>some ([],env,C)
noncomputable def aCons (f:FE) (g:FA):FA:=fun env C=>match f env C with
 | some (r,e1,C1)=>match g e1 C1 with
  | some (xs,e2,C2)=>some (still r::xs,e2,C2)
  | none=>none
 | none=>none
noncomputable def bNil:Pu:=fun env C=>some ([],env,C)
noncomputable def bCons (f:FB) (g:Pu):Pu:=fun env C=>match f env C with
 | some (d,e1,C1)=>match g e1 C1 with
  | some (ds,e2,C2)=>some (d::ds,e2,C2)
  | none=>none
 | none=>none
theorem Res.arg {K:PySem.W.Frag} {Z Θ:List Addr} {env:En} {C:Ce} {σ:St} {H H':Hp} {r:Vl} {v:V} (h:Res K Z Θ env C σ H H' r v):Sm K Z Θ env C σ H'∧qu K (er (aK Z Θ env σ) H') Θ (L2.still r) v:=by
 have g:=h.still
 cases r with
 | im d=>exact g
 | ow d=>exact g
 | ce n=>exact g
 | sc ns=>exact g
theorem Ez.same {E E' T T':Hp} (s:aU E E') (t:aU T T') {ds:List PyData} {vs:List V} (h:Ez E T ds vs):Ez E' T' ds vs:=by
 induction h with
 | nil=>exact .nil
 | cons a _ ih=>exact .cons (a.same s t) ih
section
variable {X:Cx} {e:Expr} {es:List Expr} {pos:Pos}
theorem aA:PA X [] (Vx X.K aNil):=jA.weak fun σ H Q aV=>by
 obtain ⟨Z,Θ,env,C,xs,env',C',S,hf,q⟩:=aV
 cases hf
 exact q [] H (bF.refl _ _) (Fz.refl _) S .nil
theorem aa {f:FE} {g:FA} (h:PE X e (tE X.K f)) (hr:PA X es (Vx X.K g)) (hs:starEach (e::es) X.env=(false,eval e X.env)::starEach es X.env:=by rfl):PA X (e::es) (Vx X.K (aCons f g)):=(dX h hr hs).weak fun σ H Q aV=>by
 obtain ⟨Z,Θ,env,C,xs,env',C',S,hf,q⟩:=aV
 unfold aCons at hf
 split at hf
 ·rename_i r e1 C1 h1
  split at hf
  ·rename_i ys e2 C2 h2
   cases hf
   refine ⟨Z,Θ,env,C,r,e1,C1,S,h1,fun v H1 k1 f1 R1=>?_⟩
   obtain ⟨S1,a1⟩:=R1.arg
   exact ⟨Z,Θ,e1,C1,ys,env',C',S1,h2,fun vs H2 k2 f2 S2 a2=>q _ H2 (k1.trans k2) (f1.trans f2) S2 (.cons (a1.same (M3 S1 k2 f2)) a2)⟩
  ·cases hf
 ·cases hf
theorem bh:PA X [] (Vq X.K bNil):=jA.weak fun σ H Q aV=>by
 obtain ⟨Z,Θ,env,C,xs,env',C',S,hf,q⟩:=aV
 cases hf
 exact q [] H (bF.refl _ _) (Fz.refl _) S .nil
theorem aP {f:FB} {g:Pu} (h:PE X e (mL X.K f)) (hr:PA X es (Vq X.K g)) (hs:starEach (e::es) X.env=(false,eval e X.env)::starEach es X.env:=by rfl):PA X (e::es) (Vq X.K (bCons f g)):=(dX h hr hs).weak fun σ H Q aV=>by
 obtain ⟨Z,Θ,env,C,xs,env',C',S,hf,q⟩:=aV
 unfold bCons at hf
 split at hf
 ·rename_i d e1 C1 h1
  split at hf
  ·rename_i ys e2 C2 h2
   cases hf
   exact ⟨Z,Θ,env,C,d,e1,C1,S,h1,fun v H1 k1 f1 S1 b1=>⟨Z,Θ,e1,C1,ys,env',C',S1,h2,fun vs H2 k2 f2 S2 b2=>q _ H2 (k1.trans k2) (f1.trans f2) S2 (.cons (b1.go S1 k2 f2) b2)⟩⟩
  ·cases hf
 ·cases hf
end
noncomputable def allIm:List Vl→Option (List PyData)
 | []=>some []
 | .im d::r=>match allIm r with
  | some ds=>some (d::ds)
  | none=>none
 | _=>none
theorem uX {K:PySem.W.Frag} {E:Hp} {Θ:List Addr}:∀{xs:List Vl} {ds:List PyData} {vs:List V},allIm xs=some ds→gY K E Θ xs vs→d8 E ds vs
 | [],ds,vs,h,a=>by cases h; cases a; rfl
 | .im d::r,ds,vs,h,a=>by
  unfold allIm at h
  split at h
  ·rename_i t ht
   cases h
   cases a with
   | cons a1 a2=>exact ⟨_,_,rfl,a1,uX ht a2⟩
  ·cases h
 | .ow _::r,ds,vs,h,a=>by cases h
 | .ce _::r,ds,vs,h,a=>by cases h
 | .sc _::r,ds,vs,h,a=>by cases h
noncomputable def fLst (g:FA):FE:=fun env C=>match g env C with
 | some (xs,e',C')=>match allIm xs with
  | some ds=>if ds.length≤LIM then some (.ow (.list ds),e',C') else none
  | none=>none
 | none=>none
noncomputable def fTup (g:FA):FE:=fun env C=>match g env C with
 | some (xs,e',C')=>match allIm xs with
  | some ds=>if ds.length≤LIM then some (.im (.tuple ds),e',C') else none
  | none=>none
 | none=>none
section
variable {X:Cx} {e:Expr} {es:List Expr} {pos:Pos}
theorem bA {g:FA} (h:PA X es (Vx X.K g)):PE X (.List es pos) (tE X.K (fLst g)):=(UJ h).weak fun σ H Q aV=>by
 obtain ⟨Z,Θ,env,C,r,env',C',S,hf,q⟩:=aV
 unfold fLst at hf
 split at hf
 ·rename_i xs e1 C1 h1
  split at hf
  ·rename_i ds hd
   split at hf
   ·rename_i hl
    cases hf
    refine ⟨Z,Θ,env,C,xs,env',C',S,h1,fun vs H1 k1 f1 S1 a1=>?_⟩
    have r:=uX hd a1
    exact ⟨by rw [bL r]; exact dO hl,fun p hp=>q _ _ (k1.trans (bF.upd hp)) f1 ((dY S1 r hp).from k1)⟩
   ·cases hf
  ·cases hf
 ·cases hf
theorem cP {x1} {g:FA} (h:PA X es (Vx X.K g)):PE X (.Tuple es x1 pos) (tE X.K (fTup g)):=(DW h).weak fun σ H Q aV=>by
 obtain ⟨Z,Θ,env,C,r,env',C',S,hf,q⟩:=aV
 unfold fTup at hf
 split at hf
 ·rename_i xs e1 C1 h1
  split at hf
  ·rename_i ds hd
   split at hf
   ·rename_i hl
    cases hf
    refine ⟨Z,Θ,env,C,xs,env',C',S,h1,fun vs H1 k1 f1 S1 a1=>?_⟩
    have r:=uX hd a1
    exact ⟨by rw [bL r]; exact dO hl,fun p hp=>q _ _ (k1.trans (bF.upd hp)) f1 ((ug S1 r hp).from k1)⟩
   ·cases hf
  ·cases hf
 ·cases hf
noncomputable def Fj:FE:=fun env C=>some (.ow (.dict []),env,C)
theorem Nk:PE X (.Dict [] [] pos) (tE X.K Fj):=LC.weak fun σ H Q aV=>by
 obtain ⟨Z,Θ,env,C,r,env',C',S,hf,q⟩:=aV
 cases hf
 exact fun p hp=>q _ _ (bF.upd hp) (Fz.refl _) (QS (vs:=[]) S (fun _ z=>nomatch z) (.inl ⟨[],rfl,aH⟩) rfl hp)
end
noncomputable def wY (K:PySem.W.Frag) (r:List V→Hp→VK→Prop) (op:List PyData→Option Vl):Prop:=
 ∀(Z Θ:List Addr) (env:En) (C:Ce) (σ:St) (H:Hp) (xs:List V) (ds:List PyData) (res:Vl),Sm K Z Θ env C σ H→Hv Z Θ env σ H ds xs→op ds=some res→
  ∀Q:VK,(∀v H',bF Θ H H'→Res K Z Θ env C σ H H' res v→Q v H')→r xs H Q
noncomputable def fFun (op:List PyData→Option Vl) (g:Pu):FE:=fun env C=>match g env C with
 | some (ds,e',C')=>match op ds with
  | some r=>some (r,rst r env e',C')
  | none=>none
 | none=>none
theorem BV {K:PySem.W.Frag} {r:List V→Hp→VK→Prop} {op:List PyData→Option Vl} (L:wY K r op) {g:Pu}:∀σ H Q,tE K (fFun op g) σ H Q→ZW r (Vq K g) σ H Q:=by
 rintro σ H Q ⟨Z,Θ,env,C,res,env',C',S,hf,q⟩
 unfold fFun at hf
 split at hf
 ·rename_i ds e1 C1 h1
  split at hf
  ·rename_i r0 h2
   cases hf
   refine ⟨Z,Θ,env,C,ds,e1,C',S,h1,fun vs H1 k1 f1 S1 b1=>L Z Θ e1 C' σ H1 vs ds res S1 b1 h2 Q fun z H2 k2 R=>?_⟩
   exact q z H2 (k1.trans k2) (f1.rst res) ((R.from k1).rst S (k1.trans k2))
  ·cases hf
 ·cases hf
section
variable {X:Cx} {x:Str} {p pos:Pos} {e:Expr} {es:List Expr} {g:Pu} {id T:String} {r:List V→Hp→VK→Prop} {op:List PyData→Option Vl}
theorem bI (hc:cD X (.builtin id) r) (L:wY X.K r op) (hg:Gl X x) (hm:X.mg x=none) (hv:bootBuiltins x=some (.builtin id)) (ha:PA X (e::es) (Vq X.K g)) (hn:x≠"__name__":=by decide) (hdb:(x==("__debug__":Str))=false:=by decide)
  (he:starEach (e::es) X.env=(false,eval e X.env)::starEach es X.env:=by rfl) (hpl:(backTo pos (starEach es X.env)).any (·.1)=false:=by rfl):PE X (.Call (.Name x p) (e::es) [] pos) (tE X.K (fFun op g)):=(pQ hc hg hm hv ha hn hdb he hpl).weak (BV L)
theorem gH (hc:cD X (.type T) r) (L:wY X.K r op) (hg:Gl X x) (hm:X.mg x=none) (hv:bootBuiltins x=some (.type T)) (ha:PA X (e::es) (Vq X.K g)) (hn:x≠"__name__":=by decide) (hdb:(x==("__debug__":Str))=false:=by decide)
  (he:starEach (e::es) X.env=(false,eval e X.env)::starEach es X.env:=by rfl) (hpl:(backTo pos (starEach es X.env)).any (·.1)=false:=by rfl):PE X (.Call (.Name x p) (e::es) [] pos) (tE X.K (fFun op g)):=(Jz hc hg hm hv ha hn hdb he hpl).weak (BV L)
end
noncomputable abbrev FN:=List Vl→Ce→Option (Vl×Ce)
noncomputable def spT (K:PySem.W.Frag) (f:FN):Sp:=fun vs H Q _=>∃Z Θ C xs r C',Sm K Z Θ [] C [] H∧gY K (er (aK Z Θ [] []) H) Θ xs vs∧f xs C=some (r,C')∧
 ∀v H',bF Θ H H'→Res K Z Θ [] C' [] H H' r v→Q v H'
noncomputable def fCal (f:FN) (g:FA):FE:=fun env C=>match g env C with
 | some (xs,e',C1)=>match f xs C1 with
  | some (r,C2)=>some (r,rst r env e',C2)
  | none=>none
 | none=>none
theorem gZ {P P':List Addr} {H:Hp} (h:∀a,a∈P ↔ a∈P'):er P H=er P' H:=by
 funext b
 unfold er
 by_cases hb:b∈P
 ·rw [if_pos hb,if_pos ((h b).mp hb)]
 ·rw [if_neg hb,if_neg (fun z=>hb ((h b).mpr z))]
theorem zK {Z Θ:List Addr} {env:En} {σ:St} (a:Addr):a∈aK (Z++aX env σ) Θ [] [] ↔ a∈aK Z Θ env σ:=by
 simp only [aK,aX,List.mem_append,List.append_nil]
 constructor
 ·rintro ((h | h) | h)
  ·exact .inl h
  ·exact .inr (.inr h)
  ·exact .inr (.inl h)
 ·rintro (h | h | h)
  ·exact .inl (.inl h)
  ·exact .inr h
  ·exact .inl (.inr h)
section
variable {K:PySem.W.Frag} {Z Θ:List Addr} {env:En} {C C':Ce} {σ:St} {H H':Hp} {a:Addr}
theorem Sm.BW (S:Sm K Z Θ env C σ H) (ha:H a=none) (k:bF Θ H H') (h':NT (H' a)) (c:eY Θ C' H'):Sm K (a::Z) Θ env C' σ H':=by
 have sm:aU (er (aK Z Θ env σ) H) (er (aK (a::Z) Θ env σ) H'):=fD k S.Hu fun b m=>by
  rcases List.mem_cons.mp m with rfl | m
  ·exact .inr ha
  ·exact .inl m
 refine ⟨S.len,List.nodup_cons.mpr ⟨fun m=>S.zy a m ha,S.nd⟩,fun b m=>?_,fun i x e=>?_,c⟩
 ·rcases List.mem_cons.mp m with rfl | m
  ·exact h'
  ·obtain ⟨u,e,n⟩:=S.dom b m
   exact ⟨u,k.keep _ _ e fun z=>by
    have h:=S.nd
    rw [List.nodup_append] at h
    exact h.2.2 b m b (List.mem_append_left _ z) rfl,n⟩
 ·obtain ⟨v,e1,r⟩:=S.slot i x e
  refine ⟨v,e1,r.same sm fun d b ex ev o' ho=>k.keep _ _ ho ?_⟩
  subst ex ev
  exact (S.eZ (cz.mpr ⟨i,d,e,e1⟩)).2
theorem Sm.bare (S:Sm K Z Θ env C σ H):Sm K (Z++aX env σ) Θ [] C [] H:=by
 refine ⟨rfl,?_,fun b m=>?_,fun i x e=>by simp at e,S.cell⟩
 ·have h:=S.nd
  show ((Z++aX env σ)++(Θ++[])).Nodup
  rw [List.append_nil,List.append_assoc]
  have p:(Z++(Θ++aX env σ)).Perm (Z++(aX env σ++Θ)):=List.Perm.append_left Z List.perm_append_comm
  exact p.nodup h
 ·rcases List.mem_append.mp m with m | m
  ·exact S.dom b m
  ·exact S.Y4 b (List.mem_append_right _ (List.mem_append_right _ m))
theorem Res.back {r:Vl} {v:V} (S:Sm K Z Θ env C σ H) (k:bF Θ H H') (h:Res K (Z++aX env σ) Θ [] C' [] H H' r v):Res K Z Θ env C' σ H H' r v:=by
 have e1:er (aK (Z++aX env σ) Θ [] []) H'=er (aK Z Θ env σ) H':=gZ zK
 cases r with
 | im d=>
  obtain ⟨S',r⟩:=h
  rw [e1] at r
  exact ⟨S.go k S'.cell,r⟩
 | ow d=>
  obtain ⟨a,rfl,hn,S',r⟩:=h
  have e2:er (aK (a::(Z++aX env σ)) Θ [] []) H'=er (aK (a::Z) Θ env σ) H':=gZ fun b=>by
   show b∈a::aK (Z++aX env σ) Θ [] [] ↔ b∈a::aK Z Θ env σ
   rw [List.mem_cons,List.mem_cons,zK]
  rw [e2] at r
  exact ⟨a,rfl,hn,S.BW hn k (S'.dom a List.mem_cons_self) S'.cell,r⟩
 | ce n=>exact ⟨S.go k h.1.cell,h.2⟩
 | sc ns=>
  obtain ⟨S',a,rfl,q⟩:=h
  rw [e1] at q
  exact ⟨S.go k S'.cell,a,rfl,q⟩
end
section
variable {X:Cx} {x:Str} {k:Nat} {ps:List Str} {p pos:Pos} {e:Expr} {es:List Expr} {f:FN} {g:FA}
theorem BX {K:PySem.W.Frag}:∀σ H Q,tE K (fCal f g) σ H Q→Ar (spT K f) [] E0 (Vx K g) σ H Q:=by
 rintro σ H Q ⟨Z,Θ,env,C,res,env',C',S,hf,q⟩
 unfold fCal at hf
 split at hf
 ·rename_i xs e1 C1 h1
  split at hf
  ·rename_i r C2 h2
   cases hf
   refine ⟨Z,Θ,env,C,xs,e1,C1,S,h1,fun vs H1 k1 f1 S1 a1=>?_⟩
   show spT K f (vs++[]) H1 Q E0
   rw [List.append_nil]
   have e2:er (aK (Z++aX e1 σ) Θ [] []) H1=er (aK Z Θ e1 σ) H1:=gZ zK
   rw [←e2] at a1
   exact ⟨Z++aX e1 σ,Θ,C1,xs,res,C',S1.bare,a1,h2,fun v H2 k2 R=>q v H2 (k1.trans k2) (f1.rst res) (((R.back S1 k2).from k1).rst S (k1.trans k2))⟩
  ·cases hf
 ·cases hf
theorem aQ (F:gq X.prog X.w X.K X.mg X.base x k ps (spT X.K f)) (hr:fH k X.A) (hg:Gl X x) (ha:PA X (e::es) (Vx X.K g)) (hdb:(x==("__debug__":Str))=false:=by decide)
  (he:starEach (e::es) X.env=(false,eval e X.env)::starEach es X.env:=by rfl) (hpl:(backTo pos (starEach es X.env)).any (·.1)=false:=by rfl):PE X (.Call (.Name x p) (e::es) [] pos) (tE X.K (fCal f g)):=(Xq F hr hg ha hdb he hpl).weak BX
theorem Vy (F:gq X.prog X.w X.K X.mg X.base x k [] (spT X.K f)) (hr:fH k X.A) (hg:Gl X x) (hdb:(x==("__debug__":Str))=false:=by decide):PE X (.Call (.Name x p) [] [] pos) (tE X.K (fCal f aNil)):=(Vk F hr hg hdb).weak fun σ H Q h=>by
 have:=BX (f:=f) (g:=aNil) σ H Q h
 obtain ⟨Z,Θ,env,C,xs,env',C',S,hf,q⟩:=this
 cases hf
 exact q [] H (bF.refl _ _) (Fz.refl _) S .nil
end
end L2
namespace L2
open PySem PySem.Spec PyProof.Rows PySem.W
theorem rJ:∀{env:En} {σ:St},(∀(i j:Nat) (d e:PyData) (a:Addr),env[i]?=some (some (Vl.ow d))→σ[i]?=some (some (V.ref a))→env[j]?=some (some (Vl.ow e))→σ[j]?=some (some (V.ref a))→i=j)→(aX env σ).Nodup
 | [],σ,_=>by cases σ <;> exact List.nodup_nil
 | _::_,[],_=>List.nodup_nil
 | x::en,v::s,h=>by
  rw [aX,List.nodup_append]
  refine ⟨?_,rJ fun i j d e a h1 h2 h3 h4=>?_,fun a ha b hb e=>?_⟩
  ·unfold own1
   split
   ·exact List.nodup_cons.mpr ⟨by simp,List.nodup_nil⟩
   ·exact List.nodup_nil
  ·have:=h (i + 1) (j + 1) d e a (by simpa using h1) (by simpa using h2) (by simpa using h3) (by simpa using h4)
   omega
  ·subst e
   unfold own1 at ha
   split at ha
   ·rw [List.mem_singleton] at ha
    subst ha
    obtain ⟨j,d,h1,h2⟩:=cz.mp hb
    have:=h 0 (j + 1) _ d a rfl rfl (by simpa using h1) (by simpa using h2)
    omega
   ·simp at ha
theorem get_set {α:Type} {l:List α} {i j:Nat} {x y:α} (h:(l.set i x)[j]?=some y):(j=i∧y=x∧i < l.length)∨(j≠i∧l[j]?=some y):=by
 by_cases e:i=j
 ·subst e
  rw [List.getElem?_set,if_pos rfl] at h
  split at h
  ·rename_i hl; cases h; exact .inl ⟨rfl,rfl,hl⟩
  ·cases h
 ·rw [List.getElem?_set_ne e] at h
  exact .inr ⟨fun z=>e z.symm,h⟩
theorem HN {α:Type} {l:List α} {i:Nat} {x:α} (h:i < l.length):(l.set i x)[i]?=some x:=by
 rw [List.getElem?_set,if_pos rfl,if_pos h]
theorem j8 {env:En} {σ:St} {i:Nat} {x:Vl} {v:V} {a:Addr} (h:a∈aX (env.set i (some x)) (σ.set i (some v))):a∈aX env σ∨(∃d,x=.ow d)∧v=.ref a:=by
 obtain ⟨j,d,h1,h2⟩:=cz.mp h
 rcases get_set h1 with ⟨rfl,e,_⟩ | ⟨n,h1⟩
 ·rcases get_set h2 with ⟨_,e2,_⟩ | ⟨n,_⟩
  ·cases e; cases e2; exact .inr ⟨⟨d,rfl⟩,rfl⟩
  ·exact absurd rfl n
 ·rcases get_set h2 with ⟨e,_,_⟩ | ⟨_,h2⟩
  ·exact absurd e n
  ·exact .inl (cz.mpr ⟨j,d,h1,h2⟩)
section
variable {K:PySem.W.Frag} {Z Θ:List Addr} {env:En} {C:Ce} {σ:St} {H:Hp} {a:Addr} {i:Nat} {v:V}
theorem Sm.jf (S:Sm K Z Θ env C σ H):Z.Nodup∧Θ.Nodup∧(aX env σ).Nodup∧(∀b∈Z,b∉Θ):=by
 have h:=S.nd
 rw [List.nodup_append,List.nodup_append] at h
 obtain ⟨h1,⟨h2,h3,_⟩,h4⟩:=h
 exact ⟨h1,h2,h3,fun b m m'=>h4 b m b (List.mem_append_left _ m') rfl⟩
theorem Vz {Z Θ O:List Addr} (h1:Z.Nodup) (h2:Θ.Nodup) (h3:O.Nodup) (h4:∀b∈Z,b∉Θ) (h5:∀b∈O,b∉Z∧b∉Θ):(Z++(Θ++O)).Nodup:=by
 rw [List.nodup_append,List.nodup_append]
 refine ⟨h1,⟨h2,h3,fun b m c m' e=>?_⟩,fun b m c m' e=>?_⟩
 ·subst e; exact (h5 b m').2 m
 ·subst e
  rcases List.mem_append.mp m' with m' | m'
  ·exact h4 b m m'
  ·exact (h5 b m').1 m
theorem Sm.J8 (S:Sm K Z Θ env C σ H) {x:Vl} (hx:∀d,x≠.ow d) (r:J5 K (er (aK Z Θ env σ) H) H Θ x v):Sm K Z Θ (env.set i (some x)) C (σ.set i (some v)) H:=by
 have sub:∀b,b∈aX (env.set i (some x)) (σ.set i (some v))→b∈aX env σ:=fun b m=>by
  rcases j8 m with m | ⟨⟨d,e⟩,_⟩
  ·exact m
  ·exact absurd e (hx d)
 have jf:=S.jf
 have sm:aU (er (aK Z Θ env σ) H) (er (aK Z Θ (env.set i (some x)) (σ.set i (some v))) H):=jE fun b m=>by
  rcases List.mem_append.mp m with m | m
  ·exact List.mem_append_left _ m
  ·rcases List.mem_append.mp m with m | m
   ·exact List.mem_append_right _ (List.mem_append_left _ m)
   ·exact List.mem_append_right _ (List.mem_append_right _ (sub b m))
 refine ⟨by rw [List.length_set,List.length_set]; exact S.len,?_,S.dom,fun j y e=>?_,S.cell⟩
 ·refine Vz jf.1 jf.2.1 (rJ fun p q d e b h1 h2 h3 h4=>?_) jf.2.2.2 fun b m=>S.eZ (sub b m)
  rcases get_set h1 with ⟨rfl,e1,_⟩ | ⟨n1,h1⟩
  ·cases e1; exact absurd rfl (hx d)
  ·rcases get_set h3 with ⟨rfl,e1,_⟩ | ⟨n2,h3⟩
   ·cases e1; exact absurd rfl (hx e)
   ·rcases get_set h2 with ⟨e2,_,_⟩ | ⟨_,h2⟩
    ·exact absurd e2 n1
    ·rcases get_set h4 with ⟨e4,_,_⟩ | ⟨_,h4⟩
     ·exact absurd e4 n2
     ·exact qi jf.2.2.1 h1 h2 h3 h4
 ·rcases get_set e with ⟨rfl,e1,hl⟩ | ⟨n,e⟩
  ·cases e1
   exact ⟨v,HN (by rw [S.len]; exact hl),r.same sm fun d b ex _=>absurd ex (hx d)⟩
  ·obtain ⟨u,e1,r1⟩:=S.slot j y e
   exact ⟨u,by rw [List.getElem?_set_ne (Ne.symm n)]; exact e1,r1.same sm fun _ _ _ _ _ h=>h⟩
theorem Sm.X4 (S:Sm K (a::Z) Θ env C σ H) {d:PyData} (r:mK (er (aK (a::Z) Θ env σ) H) H a d):Sm K Z Θ (env.set i (some (.ow d))) C (σ.set i (some (.ref a))) H:=by
 have sub:∀b,b∈aX (env.set i (some (.ow d))) (σ.set i (some (.ref a)))→b∈aX env σ∨b=a:=fun b m=>by
  rcases j8 m with m | ⟨_,e⟩
  ·exact .inl m
  ·cases e; exact .inr rfl
 have jf:=S.jf
 have X5:=List.nodup_cons.mp jf.1
 have sm:aU (er (aK (a::Z) Θ env σ) H) (er (aK Z Θ (env.set i (some (.ow d))) (σ.set i (some (.ref a)))) H):=jE fun b m=>by
  rcases List.mem_append.mp m with m | m
  ·exact List.mem_append_left _ (List.mem_cons_of_mem _ m)
  ·rcases List.mem_append.mp m with m | m
   ·exact List.mem_append_right _ (List.mem_append_left _ m)
   ·rcases sub b m with m | rfl
    ·exact List.mem_append_right _ (List.mem_append_right _ m)
    ·exact List.mem_append_left _ List.mem_cons_self
 have X6:a∉aX env σ:=fun m=>(S.eZ m).1 List.mem_cons_self
 refine ⟨by rw [List.length_set,List.length_set]; exact S.len,?_,fun b m=>S.dom b (List.mem_cons_of_mem _ m),fun j y e=>?_,S.cell⟩
 ·refine Vz X5.2 jf.2.1 (rJ fun p q d1 e b h1 h2 h3 h4=>?_) (fun b m=>jf.2.2.2 b (List.mem_cons_of_mem _ m)) fun b m=>?_
  ·rcases get_set h1 with ⟨rfl,e1,_⟩ | ⟨n1,h1⟩
   ·rcases get_set h3 with ⟨e3,_,_⟩ | ⟨n2,h3⟩
    ·exact e3.symm
    ·rcases get_set h2 with ⟨_,e2,_⟩ | ⟨n,_⟩
     ·cases e2
      rcases get_set h4 with ⟨e4,_,_⟩ | ⟨_,h4⟩
      ·exact e4.symm
      ·exact absurd (cz.mpr ⟨q,e,h3,h4⟩) X6
     ·exact absurd rfl n
   ·rcases get_set h2 with ⟨e2,_,_⟩ | ⟨_,h2'⟩
    ·exact absurd e2 n1
    ·have mp:=cz.mpr ⟨p,d1,h1,h2'⟩
     rcases get_set h3 with ⟨rfl,e3,_⟩ | ⟨n2,h3⟩
     ·rcases get_set h4 with ⟨_,e4,_⟩ | ⟨n,_⟩
      ·cases e4
       exact absurd mp X6
      ·exact absurd rfl n
     ·rcases get_set h4 with ⟨e4,_,_⟩ | ⟨_,h4⟩
      ·exact absurd e4 n2
      ·exact qi jf.2.2.1 h1 h2' h3 h4
  ·rcases sub b m with m | rfl
   ·obtain ⟨p,q⟩:=S.eZ m
    exact ⟨fun z=>p (List.mem_cons_of_mem _ z),q⟩
   ·exact ⟨X5.1,jf.2.2.2 b List.mem_cons_self⟩
 ·rcases get_set e with ⟨rfl,e1,hl⟩ | ⟨n,e⟩
  ·cases e1
   exact ⟨_,HN (by rw [S.len]; exact hl),a,rfl,r.same sm fun _ h=>h⟩
  ·obtain ⟨u,e1,r1⟩:=S.slot j y e
   exact ⟨u,by rw [List.getElem?_set_ne (Ne.symm n)]; exact e1,r1.same sm fun _ _ _ _ _ h=>h⟩
theorem Res.set {H0:Hp} {r:Vl} (h:Res K Z Θ env C σ H0 H r v):Sm K Z Θ (env.set i (some r)) C (σ.set i (some v)) H:=by
 cases r with
 | im d=>exact h.1.J8 (fun _ e=>nomatch e) h.2
 | ow d=>obtain ⟨a,rfl,_,S,r⟩:=h; exact S.X4 r
 | ce n=>exact h.1.J8 (fun _ e=>nomatch e) h.2
 | sc ns=>exact h.1.J8 (fun _ e=>nomatch e) h.2
end
inductive Fl where
 | nx | rt (r:Vl) | bk | ct
noncomputable abbrev FS:=En→Ce→Option (Fl×En×Ce)
structure zM (Θ Θ':List Addr) (H:Hp):Prop where
 ex:∃Δ,Θ'=Θ++Δ∧∀a∈Δ,H a=none
theorem zM.refl (Θ:List Addr) (H:Hp):zM Θ Θ H:=⟨[],by rw [List.append_nil],fun _ m=>nomatch m⟩
structure ji (K:PySem.W.Frag) (Z Θ:List Addr) (env:En) (σ:St) (H:Hp) (Θ':List Addr) (env':En) (C':Ce) (σ':St) (H':Hp):Prop where
 th:zM Θ Θ' H
 kp:bF (Θ++aX env σ) H H'
 own:∀a∈aX env' σ',a∈aX env σ∨H a=none
 sm:Sm K Z Θ' env' C' σ' H'
noncomputable def HQ (K:PySem.W.Frag) (Z Θ:List Addr) (C:Ce) (own:List Addr) (H H':Hp):Vl→V→Prop
 | .im d,v=>Sm K Z Θ [] C [] H'∧RZ (er (aK Z Θ [] []) H') d v
 | .ow d,v=>∃a,v=.ref a∧(a∈own∨H a=none)∧Sm K (a::Z) Θ [] C [] H'∧mK (er (aK (a::Z) Θ [] []) H') H' a d
 | .ce n,v=>Sm K Z Θ [] C [] H'∧∃a,v=.ref a∧Θ[n]?=some a
 | .sc ns,v=>Sm K Z Θ [] C [] H'∧∃a,v=.ref a∧cO K (er (aK Z Θ [] []) H') a (ns.map V.int)
structure RtP (K:PySem.W.Frag) (Z Θ:List Addr) (env:En) (σ:St) (H:Hp) (Θ':List Addr) (C':Ce) (r:Vl) (v:V) (H':Hp):Prop where
 th:zM Θ Θ' H
 kp:bF (Θ++aX env σ) H H'
 ok:HQ K Z Θ' C' (aX env σ) H H' r v
noncomputable def QZ (K:PySem.W.Frag) (Z Θ:List Addr) (env:En) (σ:St) (H:Hp) (env':En) (C':Ce) (D:Ends):Fl→Prop
 | .nx=>∀Θ' σ' H',ji K Z Θ env σ H Θ' env' C' σ' H'→D.nx σ' H'
 | .bk=>∀Θ' σ' H',ji K Z Θ env σ H Θ' env' C' σ' H'→D.bk σ' H'
 | .ct=>∀Θ' σ' H',ji K Z Θ env σ H Θ' env' C' σ' H'→D.ct σ' H'
 | .rt r=>∀Θ' v H',RtP K Z Θ env σ H Θ' C' r v H'→D.rt v H'
noncomputable def tS (K:PySem.W.Frag) (f:FS):TS:=fun D σ H=>∃Z Θ env C fl env' C',Sm K Z Θ env C σ H∧f env C=some (fl,env',C')∧QZ K Z Θ env σ H env' C' D fl
section
variable {K:PySem.W.Frag} {Z Θ Θ1 Θ2:List Addr} {env e1 e2:En} {C C1 C2:Ce} {σ σ1 σ2:St} {H H1 H2:Hp}
theorem zM.trans (h:zM Θ Θ1 H) (k:∀a,H a≠none→H1 a≠none) (g:zM Θ1 Θ2 H1):zM Θ Θ2 H:=by
 obtain ⟨Δ,e,n⟩:=h.ex
 obtain ⟨Δ',e',n'⟩:=g.ex
 refine ⟨Δ++Δ',by rw [e',e,List.append_assoc],fun a m=>?_⟩
 rcases List.mem_append.mp m with m | m
 ·exact n a m
 ·cases h:H a with
  | none=>rfl
  | some o=>exact absurd (n' a m) (k a (by rw [h]; exact Option.some_ne_none _))
theorem BZ (th:zM Θ Θ1 H) (k1:bF (Θ++aX env σ) H H1) (ow:∀a∈aX e1 σ1,a∈aX env σ∨H a=none) (k2:bF (Θ1++aX e1 σ1) H1 H2):bF (Θ++aX env σ) H H2:=by
 refine ⟨fun a o e n=>k2.keep a o (k1.keep a o e n) fun m=>n ?_,fun a e=>k2.dom a (k1.dom a e)⟩
 have hn:H a≠none:=by rw [e]; exact Option.some_ne_none _
 rcases List.mem_append.mp m with m | m
 ·obtain ⟨Δ,e',n'⟩:=th.ex
  rw [e'] at m
  rcases List.mem_append.mp m with m | m
  ·exact List.mem_append_left _ m
  ·exact absurd (n' a m) hn
 ·rcases ow a m with m | m
  ·exact List.mem_append_right _ m
  ·exact absurd m hn
theorem ji.trans (p:ji K Z Θ env σ H Θ1 e1 C1 σ1 H1) (q:ji K Z Θ1 e1 σ1 H1 Θ2 e2 C2 σ2 H2):ji K Z Θ env σ H Θ2 e2 C2 σ2 H2 where
 th:=p.th.trans p.kp.dom q.th
 kp:=BZ p.th p.kp p.own q.kp
 own:=fun a m=>by
  rcases q.own a m with m | m
  ·exact p.own a m
  ·exact .inr (p.kp.none m)
 sm:=q.sm
theorem ji.ret {r:Vl} {v:V} (p:ji K Z Θ env σ H Θ1 e1 C1 σ1 H1) (q:RtP K Z Θ1 e1 σ1 H1 Θ2 C2 r v H2):RtP K Z Θ env σ H Θ2 C2 r v H2 where
 th:=p.th.trans p.kp.dom q.th
 kp:=BZ p.th p.kp p.own q.kp
 ok:=by
  have h:=q.ok
  cases r with
  | im d=>exact h
  | ow d=>
   obtain ⟨a,e,m,S,r⟩:=h
   refine ⟨a,e,?_,S,r⟩
   rcases m with m | m
   ·exact p.own a m
   ·exact .inr (p.kp.none m)
  | ce n=>exact h
  | sc ns=>exact h
theorem QZ.trans {D:Ends} {fl:Fl} (p:ji K Z Θ env σ H Θ1 e1 C1 σ1 H1) (h:QZ K Z Θ env σ H e2 C2 D fl):QZ K Z Θ1 e1 σ1 H1 e2 C2 D fl:=by
 cases fl with
 | nx=>exact fun Θ' σ' H' q=>h Θ' σ' H' (p.trans q)
 | bk=>exact fun Θ' σ' H' q=>h Θ' σ' H' (p.trans q)
 | ct=>exact fun Θ' σ' H' q=>h Θ' σ' H' (p.trans q)
 | rt r=>exact fun Θ' v H' q=>h Θ' v H' (p.ret q)
theorem j9 {O:List Addr} (k:bF Θ H H1):bF (Θ++O) H H1:=⟨fun a o e n=>k.keep a o e fun m=>n (List.mem_append_left _ m),k.dom⟩
theorem ji.HR (k:bF Θ H H1) (f:Fz env e1) (S:Sm K Z Θ e1 C1 σ H1):ji K Z Θ env σ H Θ e1 C1 σ H1:=
 ⟨zM.refl _ _,j9 k,fun a m=>.inl (f.own.subset m),S⟩
end
noncomputable def fNext:FS:=fun env C=>some (.nx,env,C)
noncomputable def fSeq (f g:FS):FS:=fun env C=>match f env C with
 | some (.nx,e1,C1)=>g e1 C1
 | r=>r
noncomputable def jg (c:FT) (f g:FS):FS:=fun env C=>match c env C with
 | some (true,C1)=>f env C1
 | some (false,C1)=>g env C1
 | none=>none
noncomputable def fRet (f:FE):FS:=fun env C=>match f env C with
 | some (r,e1,C1)=>some (.rt r,e1,C1)
 | none=>none
noncomputable def fRetV (i:Nat):FS:=fun env C=>match env[i]? with
 | some (some x)=>some (.rt x,env,C)
 | _=>none
noncomputable def fSet (i:Nat) (f:FE):FS:=fun env C=>match f env C with
 | some (r,e1,C1)=>some (.nx,e1.set i (some r),C1)
 | none=>none
section
variable {X:Cx} {st:Stmt} {rest:List Stmt} {pos:Pos}
theorem ji.same {K:PySem.W.Frag} {Z Θ:List Addr} {env:En} {C:Ce} {σ:St} {H:Hp} (S:Sm K Z Θ env C σ H):ji K Z Θ env σ H Θ env C σ H:=ji.HR (bF.refl _ _) (Fz.refl _) S
theorem eE:tX X [] (tS X.K fNext):=P0.weak fun D σ H aV=>by
 obtain ⟨Z,Θ,env,C,fl,env',C',S,hf,q⟩:=aV
 cases hf
 exact q Θ σ H (ji.same S)
theorem aR {f:FS} (h:PS X st (tS X.K f)):tX X [st] (tS X.K f):=Qa h
theorem Nm {K:PySem.W.Frag} {f g:FS}:∀D σ H,tS K (fSeq f g) D σ H→WR (tS K f) (tS K g) D σ H:=by
 rintro D σ H ⟨Z,Θ,env,C,fl,env',C',S,hf,q⟩
 unfold fSeq at hf
 split at hf
 ·rename_i e1 C1 h1
  exact ⟨Z,Θ,env,C,.nx,e1,C1,S,h1,fun Θ1 σ1 H1 p=>⟨Z,Θ1,e1,C1,fl,env',C',p.sm,hf,q.trans p⟩⟩
 ·rename_i hne
  refine ⟨Z,Θ,env,C,fl,env',C',S,hf,?_⟩
  cases fl with
  | nx=>exact absurd hf (hne _ _)
  | bk=>exact q
  | ct=>exact q
  | rt r=>exact q
theorem aD {f g:FS} (h:PS X st (tS X.K f)) (hr:tX X rest (tS X.K g)):tX X (st::rest) (tS X.K (fSeq f g)):=(K4 h hr).weak Nm
theorem iw {c:Expr} {a b:List Stmt} {t:FT} {f g:FS} (hc:PT X c (lX X.K t)) (ha:tX X a (tS X.K f)) (hb:tX X b (tS X.K g)):PS X (.If c a b pos) (tS X.K (jg t f g)):=(WW hc ha hb).weak fun D σ H aV=>by
 obtain ⟨Z,Θ,env,C,fl,env',C',S,hf,q⟩:=aV
 unfold jg at hf
 split at hf
 ·rename_i C1 h1
  exact ⟨Z,Θ,env,C,true,C1,S,h1,fun H1 k1 S1=>wO ⟨Z,Θ,env,C1,fl,env',C',S1,hf,q.trans (ji.HR k1 (Fz.refl _) S1)⟩⟩
 ·rename_i C1 h1
  exact ⟨Z,Θ,env,C,false,C1,S,h1,fun H1 k1 S1=>wN ⟨Z,Θ,env,C1,fl,env',C',S1,hf,q.trans (ji.HR k1 (Fz.refl _) S1)⟩⟩
 ·cases hf
theorem Sm.none {K:PySem.W.Frag} {Z Θ:List Addr} {env:En} {C:Ce} {σ:St} {H:Hp} (S:Sm K Z Θ env C σ H):Sm K Z Θ [] C [] H:=by
 have jf:=S.jf
 exact ⟨rfl,Vz jf.1 jf.2.1 List.nodup_nil jf.2.2.2 (fun _ m=>nomatch m),S.dom,fun i x e=>by simp at e,S.cell⟩
theorem mO {Z Θ:List Addr} {env:En} {σ:St} {H:Hp}:aU (er (aK Z Θ env σ) H) (er (aK Z Θ [] []) H):=jE fun b m=>by
 rcases List.mem_append.mp m with m | m
 ·exact List.mem_append_left _ m
 ·rcases List.mem_append.mp m with m | m
  ·exact List.mem_append_right _ (List.mem_append_left _ m)
  ·nomatch m
theorem Res.ret {K:PySem.W.Frag} {Z Θ:List Addr} {env:En} {C:Ce} {σ:St} {H H':Hp} {O:List Addr} {r:Vl} {v:V} (h:Res K Z Θ env C σ H H' r v):HQ K Z Θ C O H H' r v:=by
 cases r with
 | im d=>exact ⟨h.1.none,h.2.same mO⟩
 | ow d=>obtain ⟨a,e,n,S,r⟩:=h; exact ⟨a,e,.inr n,S.none,r.same mO fun _ h=>h⟩
 | ce n=>exact ⟨h.1.none,h.2⟩
 | sc ns=>obtain ⟨S,a,e,q⟩:=h; exact ⟨S.none,a,e,mO.seq q⟩
theorem bZ {e:Expr} {f:FE} (h:PE X e (tE X.K f)):PS X (.Return (some e) pos) (tS X.K (fRet f)):=(K5 h).weak fun D σ H aV=>by
 obtain ⟨Z,Θ,env,C,fl,env',C',S,hf,q⟩:=aV
 unfold fRet at hf
 split at hf
 ·rename_i r e1 C1 h1
  cases hf
  exact ⟨Z,Θ,env,C,r,env',C',S,h1,fun v H1 k f R=>q Θ v H1 ⟨zM.refl _ _,j9 k,R.ret⟩⟩
 ·cases hf
theorem nP {e:Expr} {i:Nat} (h:PE X e (wK i)):PS X (.Return (some e) pos) (tS X.K (fRetV i)):=(K5 h).weak fun D σ H aV=>by
 obtain ⟨Z,Θ,env,C,fl,env',C',S,hf,q⟩:=aV
 unfold fRetV at hf
 split at hf
 ·rename_i x hx
  cases hf
  obtain ⟨v,e1,r⟩:=S.slot i x hx
  refine ⟨v,e1,q Θ v H ⟨zM.refl _ _,bF.refl _ _,?_⟩⟩
  cases x with
  | im d=>exact ⟨S.none,RZ.same mO r⟩
  | ow d=>
   obtain ⟨a,rfl,r⟩:=r
   have m:a∈aX env σ:=cz.mpr ⟨i,d,hx,e1⟩
   have sm:aU (er (aK Z Θ env σ) H) (er (aK (a::Z) Θ [] []) H):=jE fun b mb=>by
    rcases List.mem_append.mp mb with mb | mb
    ·rcases List.mem_cons.mp mb with rfl | mb
     ·exact List.mem_append_right _ (List.mem_append_right _ m)
     ·exact List.mem_append_left _ mb
    ·rcases List.mem_append.mp mb with mb | mb
     ·exact List.mem_append_right _ (List.mem_append_left _ mb)
     ·nomatch mb
   have jf:=S.jf
   refine ⟨a,rfl,.inl m,⟨rfl,Vz (List.nodup_cons.mpr ⟨(S.eZ m).1,jf.1⟩) jf.2.1 List.nodup_nil (fun b mb=>?_) (fun _ m=>nomatch m),fun b mb=>?_,fun i x e=>by simp at e,S.cell⟩,r.same sm fun _ h=>h⟩
   ·rcases List.mem_cons.mp mb with rfl | mb
    ·exact (S.eZ m).2
    ·exact jf.2.2.2 b mb
   ·rcases List.mem_cons.mp mb with rfl | mb
    ·exact r.nt
    ·exact S.dom b mb
  | ce n=>exact ⟨S.none,r⟩
  | sc ns=>obtain ⟨a,e,q⟩:=r; exact ⟨S.none,a,e,mO.seq q⟩
 ·cases hf
theorem uY {K:PySem.W.Frag} {i:Nat} {t:TE} {f:FE} (w:∀σ H Q,tE K f σ H Q→t σ H Q):∀D σ H,tS K (fSet i f) D σ H→Jm t (sU i) D σ H:=by
 rintro D σ H ⟨Z,Θ,env,C,fl,env',C',S,hf,q⟩
 unfold fSet at hf
 split at hf
 ·rename_i r e1 C1 h1
  cases hf
  refine w _ _ _ ⟨Z,Θ,env,C,r,e1,C',S,h1,fun v H1 k f R=>q Θ _ H1 ⟨zM.refl _ _,j9 k,fun a m=>?_,R.set⟩⟩
  rcases j8 m with m | ⟨⟨d,e⟩,e2⟩
  ·exact .inl (f.own.subset m)
  ·subst e
   obtain ⟨b,e3,n,_⟩:=R
   rw [e2] at e3
   cases e3
   exact .inr n
 ·cases hf
theorem bT {i:Nat} {x:Str} {e:Expr} {f:FE} {pos':Pos} (hN:X.N.Nodup) (hi:X.N[i]?=some x) (hx:Loc X.env.scope x) (he:PE X e (tE X.K f)) (hs:swapsWith e (some (.Name x pos')) pos.line X.env=pure false:=by rfl) (hf:X.fn x=true∨X.env.scope.names.lookup x=some .local:=by first | exact .inl rfl | exact .inr rfl | assumption):
  PS X (.Assign [.Name x pos'] e pos) (tS X.K (fSet i f)):=(K8 hN hi hx he hs hf).weak (uY fun _ _ _ h=>h)
end
end L2
namespace L2
open PySem PySem.Spec PyProof.Rows PySem.W
noncomputable abbrev FG:=PyData→En→Option En
noncomputable abbrev VB:=List PyData→En→Option En
noncomputable def Wt (K:PySem.W.Frag) (g:TG) (fg:FG):Prop:=∀(Z Θ:List Addr) (env:En) (C:Ce) (σ:St) (H:Hp) (v:V) (d:PyData) (env':En),Sm K Z Θ env C σ H→RZ (er (aK Z Θ env σ) H) d v→fg d env=some env'→
 ∀Q:St→Hp→Prop,(∀σ',Sm K Z Θ env' C σ' H→(∀a∈aX env' σ',a∈aX env σ)→Q σ' H)→g v σ H Q
noncomputable def Q0 (K:PySem.W.Frag) (g:K6) (fg:VB):Prop:=∀(Z Θ:List Addr) (env:En) (C:Ce) (σ:St) (H:Hp) (vs:List V) (ds:List PyData) (env':En),Sm K Z Θ env C σ H→d8 (er (aK Z Θ env σ) H) ds vs→fg ds env=some env'→
 ∀Q:St→Hp→Prop,(∀σ',Sm K Z Θ env' C σ' H→(∀a∈aX env' σ',a∈aX env σ)→Q σ' H)→g vs σ H Q
noncomputable def gNm (i:Nat):FG:=fun d env=>some (env.set i (some (.im d)))
noncomputable def gsNil:VB:=fun ds env=>match ds with
 | []=>some env
 | _=>none
noncomputable def gsCons (g:FG) (u:VB):VB:=fun ds env=>match ds with
 | d::r=>match g d env with
  | some e1=>u r e1
  | none=>none
 | []=>none
noncomputable def gTp (n:Nat) (u:VB):FG:=fun d env=>match d with
 | .tuple ds=>if ds.length=n then u ds env else none
 | _=>none
theorem Np {Z Θ:List Addr} {env e1:En} {σ σ1:St} {H:Hp} (h:∀a∈aX e1 σ1,a∈aX env σ):aU (er (aK Z Θ env σ) H) (er (aK Z Θ e1 σ1) H):=jE fun b m=>by
 rcases List.mem_append.mp m with m | m
 ·exact List.mem_append_left _ m
 ·rcases List.mem_append.mp m with m | m
  ·exact List.mem_append_right _ (List.mem_append_left _ m)
  ·exact List.mem_append_right _ (List.mem_append_right _ (h b m))
section
variable {K:PySem.W.Frag}
theorem cL {i:Nat}:Wt K (sU i) (gNm i):=by
 intro Z Θ env C σ H v d env' S r e Q q
 cases e
 refine q _ (S.J8 (fun _ z=>nomatch z) r) fun a m=>?_
 rcases j8 m with m | ⟨⟨_,z⟩,_⟩
 ·exact m
 ·cases z
theorem Q3:Q0 K Ul gsNil:=by
 intro Z Θ env C σ H vs ds env' S r e Q q
 unfold gsNil at e
 split at e
 ·cases e
  exact ⟨r,q _ S fun _ m=>m⟩
 ·cases e
theorem Ca {g:TG} {u:K6} {fg:FG} {fu:VB} (h:Wt K g fg) (hu:Q0 K u fu):Q0 K (K7 g u) (gsCons fg fu):=by
 intro Z Θ env C σ H vs ds env' S r e Q q
 unfold gsCons at e
 split at e
 ·rename_i d r'
  obtain ⟨v,ws,rfl,r1,r2⟩:=r
  split at e
  ·rename_i e1 h1
   refine ⟨v,ws,rfl,h Z Θ env C σ H v d e1 S r1 h1 _ fun σ1 S1 o1=>?_⟩
   exact hu Z Θ e1 C σ1 H ws r' env' S1 (r2.same (Np o1)) e Q fun σ2 S2 o2=>q σ2 S2 fun a m=>o1 a (o2 a m)
  ·cases e
 ·cases e
theorem VD {n:Nat} {u:K6} {fu:VB} (hu:Q0 K u fu):Wt K (Um K n u) (gTp n fu):=by
 intro Z Θ env C σ H v d env' S r e Q q
 unfold gTp at e
 split at e
 ·rename_i ds
  split at e
  ·rename_i hl
   obtain ⟨a,vs,rfl,ha,r⟩:=r
   exact ⟨a,vs,rfl,eX.of (bD ha),(bL r).trans hl,hu Z Θ env C σ H vs ds env' S r e Q q⟩
  ·cases e
 ·cases e
end
noncomputable def fUnp (f:FE) (g:FG):FS:=fun env C=>match f env C with
 | some (r,e1,C1)=>match still r with
  | .im d=>match g d e1 with
   | some e2=>some (.nx,e2,C1)
   | none=>none
  | _=>none
 | none=>none
theorem Res.qw {K:PySem.W.Frag} {Z Θ:List Addr} {env:En} {C:Ce} {σ:St} {H H':Hp} {r:Vl} {v:V} {d:PyData} (h:Res K Z Θ env C σ H H' r v) (e:L2.still r=.im d):Sm K Z Θ env C σ H'∧RZ (er (aK Z Θ env σ) H') d v:=by
 have g:=h.still
 rw [e] at g
 exact g
section
variable {X:Cx} {pos:Pos}
theorem VF {tg e:Expr} {f:FE} {g:TG} {fg:FG} (he:PE X e (tE X.K f)) (hg:PG X tg g) (L:Wt X.K g fg) (hs:swapsWithSole [tg] e pos.line X.env=pure false:=by rfl) (hw:swappedStores [tg] e X.env=pure none:=by rfl) (h1:(assignEach [tg] X.env).map (·.2)=[assign tg X.env]:=by rfl):
  PS X (.Assign [tg] e pos) (tS X.K (fUnp f fg)):=(Dy he hg hs hw h1).weak fun D σ H aV=>by
 obtain ⟨Z,Θ,env,C,fl,env',C',S,hf,q⟩:=aV
 unfold fUnp at hf
 split at hf
 ·rename_i r e1 C1 h1
  split at hf
  ·rename_i d hd
   split at hf
   ·rename_i e2 h2
    cases hf
    refine ⟨Z,Θ,env,C,r,e1,C',S,h1,fun v H1 k f R=>?_⟩
    obtain ⟨S1,r1⟩:=R.qw hd
    exact L Z Θ e1 C' σ H1 v d env' S1 r1 h2 D.nx fun σ' S' o=>q Θ σ' H1 ⟨zM.refl _ _,j9 k,fun a m=>.inl (f.own.subset (o a m)),S'⟩
   ·cases hf
  ·cases hf
 ·cases hf
end
inductive iW (K:PySem.W.Frag) (E H:Hp) (Θ:List Addr):List Addr→List Vl→List V→Prop
 | nil:iW K E H Θ [] [] []
 | cons {as:List Addr} {x:Vl} {v:V} {xs:List Vl} {vs:List V}:qu K E Θ x v→iW K E H Θ as xs vs→iW K E H Θ as (x::xs) (v::vs)
 | own {as:List Addr} {a:Addr} {d:PyData} {xs:List Vl} {vs:List V}:mK E H a d→iW K E H Θ as xs vs→iW K E H Θ (as++[a]) (.ow d::xs) (.ref a::vs)
theorem iW.same {K:PySem.W.Frag} {E E' H:Hp} {Θ as:List Addr} {xs:List Vl} {vs:List V} (s:aU E E') (h:iW K E H Θ as xs vs):iW K E' H Θ as xs vs:=by
 induction h with
 | nil=>exact .nil
 | cons a _ ih=>exact .cons (a.same s) ih
 | own r _ ih=>exact .own (r.same s fun _ h=>h) ih
theorem iW.heap {K:PySem.W.Frag} {E H H':Hp} {Θ as:List Addr} {xs:List Vl} {vs:List V} (s:aU H H') (h:iW K E H Θ as xs vs):iW K E H' Θ as xs vs:=by
 induction h with
 | nil=>exact .nil
 | cons a _ ih=>exact .cons a ih
 | own r _ ih=>exact .own (r.same (aU.refl _) fun o ho=>s _ _ ho) ih
noncomputable def Wu (K:PySem.W.Frag) (f:FA):TA:=fun σ H Q=>∃Z Θ env C xs env' C',Sm K Z Θ env C σ H∧f env C=some (xs,env',C')∧
 ∀vs as H',bF Θ H H'→Fz env env'→(∀a∈as,H a=none)→Sm K (as++Z) Θ env' C' σ H'→iW K (er (aK (as++Z) Θ env' σ) H') H' Θ as xs vs→Q vs H'
noncomputable def oCons (f:FE) (g:FA):FA:=fun env C=>match f env C with
 | some (r,e1,C1)=>match g e1 C1 with
  | some (xs,e2,C2)=>some (r::xs,e2,C2)
  | none=>none
 | none=>none
section
variable {K:PySem.W.Frag} {Z Z' Θ:List Addr} {env:En} {C:Ce} {σ:St} {H:Hp}
theorem bJ {a:Addr}:a∈aK Z Θ env σ ↔ a∈Z∨a∈Θ∨a∈aX env σ:=by rw [List.mem_append,List.mem_append]
theorem Sm.perm (S:Sm K Z Θ env C σ H) (p:Z.Perm Z'):Sm K Z' Θ env C σ H:=by
 have e:er (aK Z Θ env σ) H=er (aK Z' Θ env σ) H:=gZ fun a=>by rw [bJ,bJ,p.mem_iff]
 refine ⟨S.len,(List.Perm.append_right _ p).nodup S.nd,fun a m=>S.dom a (p.mem_iff.mpr m),fun i x h=>?_,S.cell⟩
 rw [←e]
 exact S.slot i x h
end
section
variable {X:Cx} {e:Expr} {es:List Expr} {pos:Pos}
theorem o8:PA X [] (Wu X.K aNil):=jA.weak fun σ H Q aV=>by
 obtain ⟨Z,Θ,env,C,xs,env',C',S,hf,q⟩:=aV
 cases hf
 exact q [] [] H (bF.refl _ _) (Fz.refl _) (fun _ m=>nomatch m) S .nil
theorem cR {f:FE} {g:FA} (h:PE X e (tE X.K f)) (hr:PA X es (Wu X.K g)) (hs:starEach (e::es) X.env=(false,eval e X.env)::starEach es X.env:=by rfl):PA X (e::es) (Wu X.K (oCons f g)):=(dX h hr hs).weak fun σ H Q aV=>by
 obtain ⟨Z,Θ,env,C,xs,env',C',S,hf,q⟩:=aV
 unfold oCons at hf
 split at hf
 ·rename_i r e1 C1 h1
  split at hf
  ·rename_i ys e2 C2 h2
   cases hf
   refine ⟨Z,Θ,env,C,r,e1,C1,S,h1,fun v H1 k1 f1 R1=>?_⟩
   have plain:∀{x:Vl},Sm X.K Z Θ e1 C1 σ H1→qu X.K (er (aK Z Θ e1 σ) H1) Θ x v→r=x→Wu X.K g σ H1 fun xs H2=>Q (v::xs) H2:=fun {x} S1 a1 ex=>by
    subst ex
    refine ⟨Z,Θ,e1,C1,ys,env',C',S1,h2,fun vs as H2 k2 f2 n2 S2 a2=>q _ as H2 (k1.trans k2) (f1.trans f2) (fun a m=>k1.none (n2 a m)) S2 (.cons (a1.same (fD k2 S1.Hu fun a m=>?_)) a2)⟩
    rcases List.mem_append.mp m with m | m
    ·rcases List.mem_append.mp m with m | m
     ·exact .inr (n2 a m)
     ·exact .inl (List.mem_append_left _ m)
    ·exact .inl (f2.sub (Z:=Z) a (List.mem_append_right _ m))
   cases r with
   | im d=>exact plain (x:=.im d) R1.1 R1.2 rfl
   | ce n=>exact plain (x:=.ce n) R1.1 R1.2 rfl
   | sc ns=>exact plain (x:=.sc ns) R1.1 R1.2 rfl
   | ow d=>
    obtain ⟨a,rfl,hn,S1,r1⟩:=R1
    refine ⟨a::Z,Θ,e1,C1,ys,env',C',S1,h2,fun vs as H2 k2 f2 n2 S2 a2=>?_⟩
    have ez:as++a::Z=(as++[a])++Z:=by rw [List.append_assoc]; rfl
    rw [ez] at S2 a2
    have na:a∉Θ:=fun m=>(S1.jf.2.2.2 a List.mem_cons_self) m
    refine q _ (as++[a]) H2 (k1.trans k2) (f1.trans f2) (fun b m=>?_) S2 (.own (r1.same (fD k2 S1.Hu fun b m=>?_) fun o ho=>k2.keep _ _ ho na) a2)
    ·rcases List.mem_append.mp m with m | m
     ·exact k1.none (n2 b m)
     ·rw [List.mem_singleton.mp m]; exact hn
    ·rcases List.mem_append.mp m with m | m
     ·rcases List.mem_append.mp m with m | m
      ·rcases List.mem_append.mp m with m | m
       ·exact .inr (n2 b m)
       ·rw [List.mem_singleton.mp m]; exact .inl List.mem_cons_self
      ·exact .inl (List.mem_append_left _ (List.mem_cons_of_mem _ m))
     ·exact .inl (f2.sub (Z:=a::Z) b (List.mem_append_right _ m))
  ·cases hf
 ·cases hf
end
noncomputable def setM {α:Type}:List Nat→List α→List (Option α)→List (Option α)
 | i::is,x::xs,e=>setM is xs (e.set i (some x))
 | _,_,e=>e
theorem HS {K:PySem.W.Frag} {Z Θ:List Addr} {C:Ce} {H:Hp} {E:Hp}:∀{as:List Addr} {xs:List Vl} {vs:List V},iW K E H Θ as xs vs→∀{is:List Nat} {env:En} {σ:St},is.length=xs.length→aU E (er (aK (as++Z) Θ env σ) H)→Sm K (as++Z) Θ env C σ H→
  Sm K Z Θ (setM is xs env) C (setM is vs σ) H∧∀a∈aX (setM is xs env) (setM is vs σ),a∈aX env σ∨a∈as:=by
 intro as xs vs h
 induction h with
 | nil=>
  intro is env σ hl _ S
  cases is with
  | nil=>exact ⟨S,fun a m=>.inl m⟩
  | cons _ _=>cases hl
 | @cons as x v xs vs a1 _ ih=>
  intro is env σ hl sm S
  cases is with
  | nil=>cases hl
  | cons i is=>
   have hx:∀d,x≠.ow d:=fun d z=>by subst z; exact a1
   have sl:J5 K (er (aK (as++Z) Θ env σ) H) H Θ x v:=by
    have a2:=a1.same sm
    cases x with
    | im d=>exact a2
    | ow d=>exact absurd rfl (hx d)
    | ce n=>exact a2
    | sc ns=>exact a2
   have S1:Sm K (as++Z) Θ (env.set i (some x)) C (σ.set i (some v)) H:=S.J8 hx sl
   have o1:∀b∈aX (env.set i (some x)) (σ.set i (some v)),b∈aX env σ:=fun b m=>by
    rcases j8 m with m | ⟨⟨d,z⟩,_⟩
    ·exact m
    ·exact absurd z (hx d)
   obtain ⟨S2,o2⟩:=ih (is:=is) (by simpa using hl) (sm.trans (Np o1)) S1
   refine ⟨S2,fun b m=>?_⟩
   rcases o2 b m with m | m
   ·exact .inl (o1 b m)
   ·exact .inr m
 | @own as a d xs vs r _ ih=>
  intro is env σ hl sm S
  cases is with
  | nil=>cases hl
  | cons i is=>
   have pm:((as++[a])++Z).Perm (a::(as++Z)):=by
    rw [List.append_assoc]
    exact List.perm_middle
   have S0:=S.perm pm
   have ee:er (aK ((as++[a])++Z) Θ env σ) H=er (aK (a::(as++Z)) Θ env σ) H:=gZ fun b=>by rw [bJ,bJ,pm.mem_iff]
   rw [ee] at sm
   have S1:Sm K (as++Z) Θ (env.set i (some (.ow d))) C (σ.set i (some (.ref a))) H:=S0.X4 (r.same sm fun _ h=>h)
   have o1:∀b∈aX (env.set i (some (.ow d))) (σ.set i (some (.ref a))),b∈aX env σ∨b=a:=fun b m=>by
    rcases j8 m with m | ⟨_,z⟩
    ·exact .inl m
    ·cases z; exact .inr rfl
   obtain ⟨S2,o2⟩:=ih (is:=is) (by simpa using hl) (sm.trans (jE fun b m=>by
    rcases List.mem_append.mp m with m | m
    ·exact List.mem_append_left _ (List.mem_cons_of_mem _ m)
    ·rcases List.mem_append.mp m with m | m
     ·exact List.mem_append_right _ (List.mem_append_left _ m)
     ·rcases o1 b m with m | rfl
      ·exact List.mem_append_right _ (List.mem_append_right _ m)
      ·exact List.mem_append_left _ List.mem_cons_self)) S1
   refine ⟨S2,fun b m=>?_⟩
   rcases o2 b m with m | m
   ·rcases o1 b m with m | rfl
    ·exact .inl m
    ·exact .inr (List.mem_append_right _ (List.mem_singleton.mpr rfl))
   ·exact .inr (List.mem_append_left _ m)
theorem zN {K:PySem.W.Frag} {E H:Hp} {Θ as:List Addr} {xs:List Vl} {vs:List V} (h:iW K E H Θ as xs vs):vs.length=xs.length:=by
 induction h with
 | nil=>rfl
 | cons _ _ ih=>rw [List.length_cons,List.length_cons,ih]
 | own _ _ ih=>rw [List.length_cons,List.length_cons,ih]
noncomputable def fPar (is:List Nat) (g:FA):FS:=fun env C=>match g env C with
 | some (xs,e1,C1)=>if is.length=xs.length∧xs.length≤LIM then some (.nx,setM is xs e1,C1) else none
 | none=>none
noncomputable def gsM (is:List Nat):K6:=match is with
 | []=>Ul
 | i::r=>K7 (sU i) (gsM r)
theorem HW:∀{is:List Nat} {vs:List V} {σ:St} {H:Hp} {Q:St→Hp→Prop},is.length=vs.length→Q (setM is vs σ) H→gsM is vs σ H Q
 | [],[],σ,H,Q,_,q=>⟨rfl,q⟩
 | i::is,v::vs,σ,H,Q,h,q=>⟨v,vs,rfl,HW (by simpa using h) q⟩
 | [],_::_,_,_,_,h,_=>by cases h
 | _::_,[],_,_,_,h,_=>by cases h
section
variable {X:Cx} {pos:Pos}
theorem uZ {i j:Nat} {x y:Str} {a b:Expr} {g:FA} {px py pt:Pos} {kt k2 Uq} (hc:X.calm=true) (hN:X.N.Nodup) (hi:X.N[i]?=some x) (hj:X.N[j]?=some y) (hij:i≠j)
  (hx:X.env.scope.names.lookup x=some .local) (hy:X.env.scope.names.lookup y=some .local) (ha:PA X [a,b] (Wu X.K g))
  (hw:swappedStores [.Tuple [.Name x px,.Name y py] kt pt] (.Tuple [a,b] k2 Uq) X.env=pure (some [x,y]))
  (hs:swapsWithSole [.Tuple [.Name x px,.Name y py] kt pt] (.Tuple [a,b] k2 Uq) pos.line X.env=pure false:=by rfl):
  PS X (.Assign [.Tuple [.Name x px,.Name y py] kt pt] (.Tuple [a,b] k2 Uq) pos) (tS X.K (fPar [i,j] g)):=(Up hc hN hi hj hij hx hy ha hw hs).weak fun D σ H aV=>by
 obtain ⟨Z,Θ,env,C,fl,env',C',S,hf,q⟩:=aV
 unfold fPar at hf
 split at hf
 ·rename_i xs e1 C1 h1
  split at hf
  ·rename_i hl
   cases hf
   refine ⟨Z,Θ,env,C,xs,e1,C',S,h1,fun vs as H1 k1 f1 n1 S1 a1=>?_⟩
   have l2:=zN a1
   obtain ⟨S2,o2⟩:=HS a1 hl.1 (aU.refl _) S1
   have e2:∃v w,vs=[v,w]:=by
    have:vs.length=2:=by rw [l2,←hl.1]; rfl
    match vs,this with
    | [v,w],_=>exact ⟨v,w,rfl⟩
   obtain ⟨v,w,rfl⟩:=e2
   refine ⟨v,w,rfl,q Θ _ H1 ⟨zM.refl _ _,j9 k1,fun b m=>?_,S2⟩⟩
   rcases o2 b m with m | m
   ·exact .inl (f1.own.subset m)
   ·exact .inr (n1 b m)
  ·cases hf
 ·cases hf
theorem HX {tg:Expr} {es:List Expr} {g:FA} {is:List Nat} {n:Nat} {x1 pt} (ha:PA X es (Wu X.K g)) (hg:PG X tg (Um X.K n (gsM is))) (hn:n=is.length:=by rfl)
  (hs:swapsWithSole [tg] (.Tuple es x1 pt) pos.line X.env=pure false:=by rfl) (hw:swappedStores [tg] (.Tuple es x1 pt) X.env=pure none:=by rfl) (h1:(assignEach [tg] X.env).map (·.2)=[assign tg X.env]:=by rfl):
  PS X (.Assign [tg] (.Tuple es x1 pt) pos) (tS X.K (fPar is g)):=(Dy (DW ha) hg hs hw h1).weak fun D σ H aV=>by
 obtain ⟨Z,Θ,env,C,fl,env',C',S,hf,q⟩:=aV
 unfold fPar at hf
 split at hf
 ·rename_i xs e1 C1 h1
  split at hf
  ·rename_i hl
   cases hf
   refine ⟨Z,Θ,env,C,xs,e1,C',S,h1,fun vs as H1 k1 f1 n1 S1 a1=>⟨by rw [zN a1]; exact dO hl.2,fun p hp=>?_⟩⟩
   have l2:=zN a1
   refine ⟨p,vs,rfl,eX.of aH,by rw [l2,hn,hl.1],HW (by rw [hl.1,l2]) ?_⟩
   have kp:bF Θ H1 (upd H1 p (.tup vs)):=bF.upd hp
   have S1':=S1.uN (aU.upd (o:=.tup vs) hp)
   have a1':iW X.K (er (aK (as++Z) Θ e1 σ) H1) (upd H1 p (.tup vs)) Θ as xs vs:=a1.heap fun b o ho=>by rw [aJ (bB ho hp)]; exact ho
   obtain ⟨S2,o2⟩:=HS a1' hl.1 (fD kp S1.Hu fun b m=>.inl m) S1'
   refine q Θ _ _ ⟨zM.refl _ _,j9 (k1.trans kp),fun b m=>?_,S2⟩
   rcases o2 b m with m | m
   ·exact .inl (f1.own.subset m)
   ·exact .inr (n1 b m)
  ·cases hf
 ·cases hf
end
end L2
namespace L2
open PySem PySem.Spec PyProof.Rows PySem.W
theorem Cd:∀{env:En} {σ:St} {i:Nat} {d d':PyData},env[i]?=some (some (.ow d))→aX (env.set i (some (.ow d'))) σ=aX env σ
 | [],σ,i,d,d',h=>by simp at h
 | x::e,[],i,d,d',h=>by cases i <;> rfl
 | x::e,v::s,0,d,d',h=>by
  simp at h
  subst h
  show own1 (some (.ow d')) v++aX e s=own1 (some (.ow d)) v++aX e s
  rcases v with _ | v
  ·rfl
  ·cases v <;> rfl
 | x::e,v::s,i + 1,d,d',h=>by
  show own1 x v++aX (e.set i (some (.ow d'))) s=own1 x v++aX e s
  rw [Cd (by simpa using h)]
section
variable {K:PySem.W.Frag} {Z Θ:List Addr} {env:En} {C:Ce} {σ:St} {H:Hp} {a:Addr} {i:Nat} {d d':PyData} {o:HO}
theorem Fo {P:List Addr} (h:a∈P):er P (upd H a o)=er P H:=by
 funext b
 unfold er
 by_cases hb:b=a
 ·subst hb; rw [if_pos h,if_pos h]
 ·rw [aJ hb]
theorem Sm.write (S:Sm K Z Θ env C σ H) (e1:env[i]?=some (some (.ow d))) (e2:σ[i]?=some (some (.ref a))) (r:mK (er (aK Z Θ env σ) H) (upd H a o) a d'):ji K Z Θ env σ H Θ (env.set i (some (.ow d'))) C σ (upd H a o):=by
 have m:a∈aX env σ:=cz.mpr ⟨i,d,e1,e2⟩
 have no:=S.eZ m
 have eo:aX (env.set i (some (.ow d'))) σ=aX env σ:=Cd e1
 have mp:a∈aK Z Θ env σ:=List.mem_append_right _ (List.mem_append_right _ m)
 have ep:aK Z Θ (env.set i (some (.ow d'))) σ=aK Z Θ env σ:=by show _++(_++_)=_; rw [eo]
 refine ⟨zM.refl _ _,⟨fun b u hb n=>?_,fun b hb=>?_⟩,fun b mb=>.inl (by rw [eo] at mb; exact mb),⟨by rw [List.length_set]; exact S.len,by rw [ep]; exact S.nd,fun b mb=>?_,fun j y ej=>?_,⟨S.cell.len,fun n b ns h1 h2=>?_⟩⟩⟩
 ·rw [aJ (fun z=>n (List.mem_append_right _ (by rw [z]; exact m)))]
  exact hb
 ·by_cases z:b=a
  ·subst z; rw [aH]; exact Option.some_ne_none _
  ·rw [aJ z]; exact hb
 ·rw [aJ (fun z=>no.1 (by rw [←z]; exact mb))]
  exact S.dom b mb
 ·rw [ep,Fo mp]
  rcases get_set ej with ⟨rfl,ex,hl⟩ | ⟨n,ej⟩
  ·cases ex
   exact ⟨_,e2,a,rfl,r⟩
  ·obtain ⟨v,e3,r3⟩:=S.slot j y ej
   refine ⟨v,e3,r3.same (aU.refl _) fun d2 b ex ev u hu=>?_⟩
   subst ex ev
   rw [aJ]
   ·exact hu
   ·intro z
    subst z
    exact n (qi S.jf.2.2.1 ej e3 e1 e2)
 ·rw [aJ (fun z=>no.2 (by rw [←z]; exact List.mem_of_getElem? h1))]
  exact S.cell.at_ n b ns h1 h2
end
noncomputable def oJ:Option (Option Vl)→Bool
 | some (some (.ow (.list _)))=>true
 | _=>false
noncomputable def oA (i:Nat) (f:FE):FS:=fun env C=>if oJ env[i]? then match f env C with
  | some (r,e1,C1)=>match still r,e1[i]? with
   | .im d,some (some (.ow (.list ds)))=>if ds.length < LIM then some (.nx,e1.set i (some (.ow (.list (ds++[d])))),C1) else none
   | _,_=>none
  | none=>none
 else none
theorem Nq {x:Option (Option Vl)} (h:oJ x=true):∃ds,x=some (some (.ow (.list ds))):=by
 unfold oJ at h
 split at h
 ·exact ⟨_,rfl⟩
 ·cases h
section
variable {X:Cx} {pos:Pos}
theorem o9 {i:Nat} {o e:Expr} {f:FE} {apos cpos:Pos} (ho:PE X o (wK i)) (he:PE X e (tE X.K f))
  (hs0:swapsWith (.Call (.Attribute o "append" apos) [e] [] cpos) none pos.line X.env=pure false:=by rfl)
  (hbase:attributeBase o "append" X.env (eval o X.env)=eval o X.env:=by rfl)
  (hfew:((backTo cpos (starEach [e] X.env)).all (fun x=>!x.1)&&(backToKw cpos (keywordEach [] X.env)).all (fun x=>x.1.isSome)
   &&decide (([e]:List Expr).length + ([]:List Keyword).length + (if ([]:List Keyword).isEmpty then 0 else 1) < 30))=true:=by rfl)
  (hline:(apos.endLine==cpos.line)=true:=by rfl) (hs:starEach [e] X.env=(false,eval e X.env)::starEach [] X.env:=by rfl) (hplain:(backTo cpos (starEach [] X.env)).any (·.1)=false:=by rfl):
  PS X (.Expr (.Call (.Attribute o "append" apos) [e] [] cpos) pos) (tS X.K (oA i f)):=
 (Qc (SJ PySem.F.plainAttrs_list PySem.F.slot_list_append PySem.F.type_list_append (Wr.r xP) ho (dX he jA hs) hbase hfew hline hs hplain) hs0).weak fun D σ H aV=>by
  obtain ⟨Z,Θ,env,C,fl,env',C',S,hf,q⟩:=aV
  unfold oA at hf
  split at hf
  ·rename_i h0
   obtain ⟨ds0,h0⟩:=Nq h0
   obtain ⟨v0,ev0,a,rfl,vs0,ha0,r0⟩:=S.slot i _ h0
   split at hf
   ·rename_i r e1 C1 h1
    split at hf
    ·rename_i d ds hd hi
     split at hf
     ·rename_i hl
      cases hf
      refine ⟨_,ev0,.inl ⟨rfl,vs0,cO.of ha0⟩,Z,Θ,env,C,r,e1,C',S,h1,fun v H1 k f R=>?_⟩
      obtain ⟨S1,r1⟩:=R.qw hd
      obtain ⟨v1,ev1,a1,ea1,vs,ha1,r2⟩:=S1.slot i _ hi
      subst ea1
      rw [ev0] at ev1
      cases ev1
      refine ⟨a,vs,v,rfl,rfl,ha1,by rw [bL r2,sizeLine_eq]; unfold LIM at hl; omega,?_⟩
      have w:ji X.K Z Θ e1 σ H1 Θ (e1.set i (some (.ow (.list (ds++[d]))))) C' σ (upd H1 a (.lst (vs++[v]))):=S1.write hi ev0 ⟨_,aH,nO r2 ⟨v,[],rfl,r1,rfl⟩⟩
      exact q Θ σ _ ((ji.HR k f S1).trans w)
     ·cases hf
    ·cases hf
   ·cases hf
  ·cases hf
noncomputable def lV {κ:Type} [DecidableEq κ] (f:PyData→Option κ) (k:κ) (dk d:PyData) (kvs:List (PyData×PyData)):List (PyData×PyData):=
 if (kvs.any fun p=>decide (f p.1=some k))=true then kvs.map (fun p=>if f p.1=some k then (p.1,d) else p) else kvs++[(dk,d)]
noncomputable def putD (kvs:List (PyData×PyData)) (dk d:PyData):Option (List (PyData×PyData)):=match d7 dk with
 | some k=>if (cF d7 kvs).isSome then some (lV d7 k dk d kvs) else none
 | none=>match cW dk with
  | some ks=>if (cF cW kvs).isSome then some (lV cW ks dk d kvs) else none
  | none=>none
theorem HY {κ:Type} [DecidableEq κ] {f:PyData→Option κ} {k:κ} {E:Hp}:∀{kvs:List (PyData×PyData)} {ks:List κ} {vs:List V},cF f kvs=some ks→pN E kvs vs→(kvs.any fun p=>decide (f p.1=some k))=((ks.zip vs).any fun kv=>decide (kv.1=k))
 | [],ks,vs,h,r=>by
  cases h
  cases (show vs=[] from r)
  rfl
 | (p,d)::kvs,ks,vs,h,r=>by
  unfold cF at h
  split at h
  ·rename_i k' t h1 h2
   cases h
   obtain ⟨v,w,rfl,q,s⟩:=r
   show (decide (f p=some k) || _)=(decide (k'=k) || _)
   rw [HY h2 s,h1]
   congr 1
   rw [Bool.eq_iff_iff,decide_eq_true_iff,decide_eq_true_iff]
   exact ⟨fun e=>Option.some.inj e,fun e=>by rw [e]⟩
  ·cases h
theorem H9 {κ:Type} [DecidableEq κ] {f:PyData→Option κ} {k:κ} {E:Hp} {d:PyData} {v:V} (hv:RZ E d v):∀{kvs:List (PyData×PyData)} {ks:List κ} {vs:List V},cF f kvs=some ks→pN E kvs vs→
  ∃vs',cF f (kvs.map fun p=>if f p.1=some k then (p.1,d) else p)=some ks∧pN E (kvs.map fun p=>if f p.1=some k then (p.1,d) else p) vs'∧ks.zip vs'=(ks.zip vs).map fun kv=>if kv.1=k then (kv.1,v) else kv
 | [],ks,vs,h,r=>by
  cases h
  exact ⟨[],rfl,rfl,rfl⟩
 | (p,e)::kvs,ks,vs,h,r=>by
  unfold cF at h
  split at h
  ·rename_i k' t h1 h2
   cases h
   obtain ⟨u,w,rfl,q,s⟩:=r
   obtain ⟨vs',g1,g2,g3⟩:=H9 (k:=k) hv h2 s
   have h1':f p=some k':=h1
   by_cases ek:k'=k
   ·subst ek
    refine ⟨v::vs',?_,?_,?_⟩
    ·rw [List.map_cons]
     show cF f ((if f p=some k' then (p,d) else (p,e))::_)=_
     rw [if_pos h1']
     unfold cF
     rw [g1]
     simp only [h1']
    ·rw [List.map_cons]
     show pN E ((if f p=some k' then (p,d) else (p,e))::_) _
     rw [if_pos h1']
     exact ⟨v,vs',rfl,hv,g2⟩
    ·show (k',v)::t.zip vs'=(if k'=k' then (k',v) else (k',u))::_
     rw [if_pos rfl,g3]
     rfl
   ·have ne:¬f p=some k:=fun z=>ek (Option.some.inj (h1'.symm.trans z))
    refine ⟨u::vs',?_,?_,?_⟩
    ·rw [List.map_cons]
     show cF f ((if f p=some k then (p,d) else (p,e))::_)=_
     rw [if_neg ne]
     unfold cF
     rw [g1]
     simp only [h1']
    ·rw [List.map_cons]
     show pN E ((if f p=some k then (p,d) else (p,e))::_) _
     rw [if_neg ne]
     exact ⟨u,vs',rfl,q,g2⟩
    ·show (k',u)::t.zip vs'=(if k'=k then (k',v) else (k',u))::_
     rw [if_neg ek,g3]
     rfl
  ·cases h
theorem Cg {κ:Type} {f:PyData→Option κ} {k:κ} {E:Hp} {dk d:PyData} {v:V} (hk:f dk=some k) (hv:RZ E d v):∀{kvs:List (PyData×PyData)} {ks:List κ} {vs:List V},cF f kvs=some ks→pN E kvs vs→
  cF f (kvs++[(dk,d)])=some (ks++[k])∧pN E (kvs++[(dk,d)]) (vs++[v])∧(ks++[k]).zip (vs++[v])=ks.zip vs++[(k,v)]
 | [],ks,vs,h,r=>by
  cases h
  cases (show vs=[] from r)
  refine ⟨?_,⟨v,[],rfl,hv,rfl⟩,rfl⟩
  show cF f [(dk,d)]=_
  unfold cF cF
  simp only [hk]
  rfl
 | (p,e)::kvs,ks,vs,h,r=>by
  unfold cF at h
  split at h
  ·rename_i k' t h1 h2
   cases h
   obtain ⟨u,w,rfl,q,s⟩:=r
   obtain ⟨g1,g2,g3⟩:=Cg hk hv h2 s
   refine ⟨?_,⟨u,_,rfl,q,g2⟩,?_⟩
   ·show cF f ((p,e)::(kvs++[(dk,d)]))=_
    unfold cF
    rw [g1]
    simp only [show f p=some k' from h1]
    rfl
   ·show (k',u)::(t++[k]).zip (w++[v])=_
    rw [g3]
    rfl
  ·cases h
theorem uh {κ:Type} [DecidableEq κ] {f:PyData→Option κ} {k:κ} {E:Hp} {dk d:PyData} {v:V} (hk:f dk=some k) (hv:RZ E d v) {kvs:List (PyData×PyData)} {ks:List κ} {vs:List V} (h:cF f kvs=some ks) (r:pN E kvs vs):
  ∃ks' vs',cF f (lV f k dk d kvs)=some ks'∧pN E (lV f k dk d kvs) vs'∧ks'.zip vs'=putK (ks.zip vs) k v:=by
 unfold lV putK
 rw [HY h r]
 split
 ·obtain ⟨vs',g1,g2,g3⟩:=H9 (k:=k) hv h r
  exact ⟨ks,vs',g1,g2,g3⟩
 ·obtain ⟨g1,g2,g3⟩:=Cg hk hv h r
  exact ⟨_,_,g1,g2,g3⟩
theorem set_dict (hu:X.A.units + 1 < cLine):yR X (fun o i v H Q=>∃a H',o=.ref a∧wM H a i v H'∧Q H'):=by
 intro pins s σ H o i v ov iv u Q I ro ri rv h
 obtain ⟨a,H',rfl,g,q⟩:=h
 cases ro
 exact xU hu I g ri rv fun s' I'=>⟨H',I',q⟩
theorem J9 (hu:X.A.units + 1 < cLine):yR X (fun o i v H Q=>∃(a b:Addr) (ks:List Key),o=.ref a∧H a=some (.dK [])∧i=.ref b∧H b=some (.tup (ks.map kV))∧Q (upd H a (.dT [(ks,v)]))):=by
 intro pins s σ H o i v ov iv u Q I ro ri rv h
 obtain ⟨a,b,ks,rfl,ha,rfl,hb,q⟩:=h
 cases ro
 have hb':(upd H a (.dT [])) b=some (.tup (ks.map kV)):=by rw [aJ (KR hb ha (fun z=>nomatch z))]; exact hb
 refine xU hu (I.Y5 ha) (wM.t (kvs:=[]) (k:=ks) (v:=v) aH hb' (by rw [sizeLine_eq]; decide)) ri rv fun s' I'=>⟨_,I',?_⟩
 rw [GC]
 exact q
theorem yR.or {t t':Qd} (h:yR X t) (h':yR X t'):yR X (fun o i v H Q=>t o i v H Q∨t' o i v H Q):=by
 intro pins s σ H o i v ov iv u Q I ro ri rv q
 rcases q with q | q
 ·exact h pins s σ H o i v ov iv u Q I ro ri rv q
 ·exact h' pins s σ H o i v ov iv u Q I ro ri rv q
theorem Q4 (hu:X.A.units + 1 < cLine):yR X (fun o i v H Q=>(Sy o i v H Q∨∃a H',o=.ref a∧wM H a i v H'∧Q H')∨∃(a b:Addr) (ks:List Key),o=.ref a∧H a=some (.dK [])∧i=.ref b∧H b=some (.tup (ks.map kV))∧Q (upd H a (.dT [(ks,v)]))):=
 (set_list.or (set_dict hu)).or (J9 hu)
noncomputable def yj:Option (Option Vl)→Bool
 | some (some _)=>true
 | _=>false
theorem Q5 {x:Option (Option Vl)} (h:yj x=true):∃y,x=some (some y):=by
 unfold yj at h
 split at h
 ·exact ⟨_,rfl⟩
 ·cases h
noncomputable def Cj (i:Nat) (fk:FB) (fe:FE):FS:=fun env C=>match fe env C with
 | some (r,e1,C1)=>match still r with
  | .im d=>match fk e1 C1 with
   | some (dk,e2,C2)=>if yj e1[i]? then match e2[i]? with
    | some (some (.ow (.list ds)))=>match dk with
     | .int z=>match Ec ds.length z with
      | some j=>some (.nx,e2.set i (some (.ow (.list (ds.set j d)))),C2)
      | none=>none
     | _=>none
    | some (some (.ow (.dict kvs)))=>match putD kvs dk d with
     | some kvs'=>if kvs.length < LIM then some (.nx,e2.set i (some (.ow (.dict kvs'))),C2) else none
     | none=>none
    | some (some (.ce n))=>match dk with
     | .int z=>match d with
      | .int y=>match C2[n]? with
       | some ns=>match Ec ns.length z with
        | some j=>some (.nx,e2,C2.set n (ns.set j y))
        | none=>none
       | none=>none
      | _=>none
     | _=>none
    | _=>none
    else none
   | none=>none
  | _=>none
 | none=>none
theorem Fp {i:Nat} {o k e:Expr} {fk:FB} {fe:FE} {p:Pos} (hu:X.A.units + 1 < cLine) (ho:PE X o (wK i)) (hk:PE X k (mL X.K fk)) (he:PE X e (tE X.K fe))
  (ha:∀v,assign (.Subscript o k p) X.env v=(do
   let ov ←holding [v] (eval o X.env)
   let iv ←holding [v,ov] (eval k X.env)
   standAt p
   holding [v,ov,iv] (setItem ov iv v)
   release [v,ov,iv] []):=by intro _; rfl)
  (hs:swapsWithSole [.Subscript o k p] e pos.line X.env=pure false:=by rfl) (hw:swappedStores [.Subscript o k p] e X.env=pure none:=by rfl) (h1:(assignEach [.Subscript o k p] X.env).map (·.2)=[assign (.Subscript o k p) X.env]:=by rfl):
  PS X (.Assign [.Subscript o k p] e pos) (tS X.K (Cj i fk fe)):=(Dy he (Uo ho hk (Q4 hu) ha) hs hw h1).weak fun D σ H aV=>by
 obtain ⟨Z,Θ,env,C,fl,env',C',S,hf,q⟩:=aV
 unfold Cj at hf
 split at hf
 ·rename_i r e1 C1 h1
  split at hf
  ·rename_i d hd
   split at hf
   case h_2=>cases hf
   rename_i dk e2 C2 h2
   refine ⟨Z,Θ,env,C,r,e1,C1,S,h1,fun v H1 k1 f1 R1=>?_⟩
   obtain ⟨S1,r1⟩:=R1.qw hd
   split at hf
   ·rename_i h3
    obtain ⟨y3,h3⟩:=Q5 h3
    obtain ⟨u,eu,_⟩:=S1.slot i _ h3
    refine ⟨u,eu,Z,Θ,e1,C1,dk,e2,C2,S1,h2,fun w H2 k2 f2 S2 b2=>?_⟩
    have r2:RZ (er (aK Z Θ e2 σ) H2) d v:=r1.same (M3 S1 k2 f2)
    have kk:=k1.trans k2
    have ff:=f1.trans f2
    split at hf
    ·rename_i ds hi
     split at hf
     case h_2=>cases hf
     rename_i z
     split at hf
     ·rename_i j hj
      cases hf
      obtain ⟨u',Tw,a,ea,vs,ha,r3⟩:=S2.slot i _ hi
      subst ea
      rw [eu] at Tw
      cases Tw
      cases b2.int
      refine .inl (.inl ⟨a,vs,z,j,rfl,rfl,ha,by rw [bL r3]; exact hj,?_⟩)
      have wr:ji X.K Z Θ e2 σ H2 Θ (e2.set i (some (.ow (.list (ds.set j d))))) C' σ (upd H2 a (.lst (vs.set j v))):=S2.write hi eu ⟨_,aH,Ht r2 j r3⟩
      exact q Θ σ _ ((ji.HR kk ff S2).trans wr)
     ·cases hf
    ·rename_i kvs hi
     split at hf
     ·rename_i kvs' hp
      split at hf
      ·rename_i hl
       cases hf
       obtain ⟨u',Tw,a,ea,vs,da,r3⟩:=S2.slot i _ hi
       subst ea
       rw [eu] at Tw
       cases Tw
       unfold putD at hp
       split at hp
       ·rename_i k hk
        split at hp
        ·rename_i hs'
         cases hp
         have wk:w=kV k:=by
          cases dk <;> first | (cases hk; exact b2) | cases hk
         rcases da with ⟨ks,g1,ha⟩ | ⟨ks,⟨ne,g2⟩,ha⟩
         ·obtain ⟨ks',vs',g3,g4,g5⟩:=uh hk r2 g1 r3
          have hl':(ks.zip vs).length < sizeLine:=by
           rw [List.length_zip,sizeLine_eq,iU g1]
           unfold LIM at hl
           omega
          have dp:=wM.k (k:=k) (v:=v) ha hl'
          rw [←wk] at dp
          refine .inl (.inr ⟨a,_,rfl,dp,?_⟩)
          have wr:ji X.K Z Θ e2 σ H2 Θ (e2.set i (some (.ow (.dict (lV d7 k dk d kvs))))) C' σ (upd H2 a (.dK (putK (ks.zip vs) k v))):=S2.write hi eu ⟨vs',.inl ⟨ks',g3,by rw [g5]; exact aH⟩,g4⟩
          exact q Θ σ _ ((ji.HR kk ff S2).trans wr)
         ·obtain ⟨aak,g1⟩:=Option.isSome_iff_exists.mp hs'
          exact absurd (jV g1 g2) ne
        ·cases hp
       ·split at hp
        ·rename_i VG hks
         split at hp
         ·rename_i hs'
          cases hp
          obtain ⟨b,hb,rfl⟩:∃b,H2 b=some (.tup (VG.map kV))∧w=.ref b:=by
           cases dk <;> first | cases hks | skip
           obtain ⟨b,ws,rfl,hb,rr⟩:=b2.tup
           rw [iM hks rr] at hb
           exact ⟨b,hb,rfl⟩
          have ne':∀kvs,lV cW VG dk d kvs≠[]:=fun kvs z=>by
           unfold lV at z
           split at z
           ·rename_i hz
            cases kvs with
            | nil=>cases hz
            | cons _ _=>cases z
           ·cases kvs <;> cases z
          rcases da with ⟨ks,g1,ha⟩ | ⟨ks,⟨ne,g1⟩,ha⟩
          ·obtain ⟨aak,g2⟩:=Option.isSome_iff_exists.mp hs'
           have e0:=jV g1 g2
           subst e0
           cases g1
           have e0:vs=[]:=r3
           subst e0
           obtain ⟨ks',vs',g3,g4,g5⟩:=uh (kvs:=[]) (vs:=[]) (ks:=[]) hks r2 rfl rfl
           refine .inr ⟨a,b,VG,rfl,ha,rfl,hb,?_⟩
           have wr:ji X.K Z Θ e2 σ H2 Θ (e2.set i (some (.ow (.dict (lV cW VG dk d []))))) C' σ (upd H2 a (.dT [(VG,v)])):=S2.write hi eu ⟨vs',.inr ⟨ks',⟨ne' [],g3⟩,by rw [g5]; exact aH⟩,g4⟩
           exact q Θ σ _ ((ji.HR kk ff S2).trans wr)
          ·obtain ⟨ks',vs',g3,g4,g5⟩:=uh hks r2 g1 r3
           have hl':(ks.zip vs).length < sizeLine:=by
            rw [List.length_zip,sizeLine_eq,iU g1]
            unfold LIM at hl
            omega
           refine .inl (.inr ⟨a,_,rfl,wM.t ha hb hl',?_⟩)
           have wr:ji X.K Z Θ e2 σ H2 Θ (e2.set i (some (.ow (.dict (lV cW VG dk d kvs))))) C' σ (upd H2 a (.dT (putK (ks.zip vs) VG v))):=S2.write hi eu ⟨vs',.inr ⟨ks',⟨ne' kvs,g3⟩,by rw [g5]; exact aH⟩,g4⟩
           exact q Θ σ _ ((ji.HR kk ff S2).trans wr)
         ·cases hp
        ·cases hp
      ·cases hf
     ·cases hf
    ·rename_i n hi
     split at hf
     case h_2=>cases hf
     rename_i z
     split at hf
     case h_2=>cases hf
     rename_i y
     split at hf
     ·rename_i ns hns
      split at hf
      ·rename_i j hj
       cases hf
       obtain ⟨u',Tw,a,ea,hth⟩:=S2.slot i _ hi
       subst ea
       rw [eu] at Tw
       cases Tw
       cases b2.int
       have ev:v=.int y:=r2
       subst ev
       have ha:=S2.cell.at_ n a ns hth hns
       refine .inl (.inl ⟨a,_,z,j,rfl,rfl,ha,by rw [List.length_map]; exact hj,?_⟩)
       have am:a∈Θ:=List.mem_of_getElem? hth
       have kc:bF Θ H2 (upd H2 a (.lst ((ns.map V.int).set j (.int y)))):=⟨fun b o hb nb=>by rw [aJ (fun zz=>nb (by rw [zz]; exact am))]; exact hb,fun b hb=>by
        by_cases zz:b=a
        ·subst zz; rw [aH]; exact Option.some_ne_none _
        ·rw [aJ zz]; exact hb⟩
       have cc:eY Θ (C2.set n (ns.set j y)) (upd H2 a (.lst ((ns.map V.int).set j (.int y)))):=by
        refine ⟨by rw [List.length_set]; exact S2.cell.len,fun m b ms h5 h6=>?_⟩
        rcases get_set h6 with ⟨rfl,e6,_⟩ | ⟨nm,h6⟩
        ·rw [hth] at h5
         cases h5
         cases e6
         rw [aH,List.map_set]
        ·rw [aJ]
         ·exact S2.cell.at_ m b ms h5 h6
         ·intro zz
          subst zz
          have nd:=S2.jf.2.1
          have l1:=(List.getElem?_eq_some_iff.mp h5)
          have l2:=(List.getElem?_eq_some_iff.mp hth)
          obtain ⟨l1,l1'⟩:=l1
          obtain ⟨l2,l2'⟩:=l2
          rcases Nat.lt_trichotomy m n with hlt | heq | hgt
          ·exact List.pairwise_iff_getElem.mp nd m n l1 l2 hlt (l1'.trans l2'.symm)
          ·exact nm heq
          ·exact List.pairwise_iff_getElem.mp nd n m l2 l1 hgt (l2'.trans l1'.symm)
       exact q Θ σ _ ((ji.HR kk ff S2).trans (ji.HR kc (Fz.refl _) (S2.go kc cc)))
      ·cases hf
     ·cases hf
    ·cases hf
   ·cases hf
  ·cases hf
 ·cases hf
end
end L2
namespace L2
open PySem PySem.Spec PyProof.Rows PySem.W
noncomputable def intsOf:List PyData→Option (List Int)
 | []=>some []
 | .int i::r=>match intsOf r with
  | some t=>some (i::t)
  | none=>none
 | _=>none
theorem jW {E:Hp}:∀{ds:List PyData} {ns:List Int} {vs:List V},intsOf ds=some ns→d8 E ds vs→vs=ns.map V.int
 | [],ns,vs,h,r=>by cases h; exact r
 | .int i::ds,ns,vs,h,r=>by
  unfold intsOf at h
  split at h
  ·rename_i t ht
   cases h
   obtain ⟨u,w,rfl,q,s⟩:=r
   rw [jW ht s]
   have:u=.int i:=q
   rw [this]
   rfl
  ·cases h
 | .none::_,_,_,h,_=>by cases h
 | .bool _::_,_,_,h,_=>by cases h
 | .str _::_,_,_,h,_=>by cases h
 | .list _::_,_,_,h,_=>by cases h
 | .tuple _::_,_,_,h,_=>by cases h
 | .dict _::_,_,_,h,_=>by cases h
noncomputable def Nr (i:Nat) (f:FE):FS:=fun env C=>match f env C with
 | some (.ow (.list ds),e1,C1)=>match intsOf ds with
  | some ns=>some (.nx,e1.set i (some (.ce C1.length)),C1++[ns])
  | none=>none
 | _=>none
section
variable {X:Cx} {pos:Pos}
theorem Nt {K:PySem.W.Frag} {i:Nat} {f:FE}:∀D σ H,tS K (Nr i f) D σ H→Jm (tE K f) (sU i) D σ H:=by
 rintro D σ H ⟨Z,Θ,env,C,fl,env',C',S,hf,q⟩
 unfold Nr at hf
 split at hf
 ·rename_i ds e1 C1 h1
  split at hf
  ·rename_i ns hns
   cases hf
   refine ⟨Z,Θ,env,C,_,e1,C1,S,h1,fun v H1 k f R=>?_⟩
   obtain ⟨a,rfl,hn,S1,vs,ha,r⟩:=R
   have ev:=jW hns r
   subst ev
   have jf:=S1.jf
   have X5:=List.nodup_cons.mp jf.1
   have cl:=S1.cell.len
   have c':eY (Θ++[a]) (C1++[ns]) H1:=by
    refine ⟨by rw [List.length_append,List.length_append,cl]; rfl,fun m b ms h5 h6=>?_⟩
    by_cases hm:m < Θ.length
    ·rw [List.getElem?_append_left hm] at h5
     rw [List.getElem?_append_left (by rw [cl]; exact hm)] at h6
     exact S1.cell.at_ m b ms h5 h6
    ·rw [List.getElem?_append_right (by omega)] at h5
     rw [List.getElem?_append_right (by omega)] at h6
     rw [cl] at h6
     cases hm0:m - Θ.length with
     | zero=>rw [hm0] at h5 h6; cases h5; cases h6; exact ha
     | succ j=>rw [hm0] at h5; simp at h5
   have o1:∀b∈aX (e1.set i (some (.ce C1.length))) (σ.set i (some (.ref a))),b∈aX e1 σ:=fun b m=>by
    rcases j8 m with m | ⟨⟨_,z⟩,_⟩
    ·exact m
    ·cases z
   have S2:Sm K Z (Θ++[a]) e1 (C1++[ns]) σ H1:=by
    have mm:∀b,b∈aK Z (Θ++[a]) e1 σ ↔ b∈aK (a::Z) Θ e1 σ:=fun b=>by
     rw [bJ,bJ,List.mem_append,List.mem_singleton,List.mem_cons]
     constructor
     ·rintro (h | (h | h) | h)
      ·exact .inl (.inr h)
      ·exact .inr (.inl h)
      ·exact .inl (.inl h)
      ·exact .inr (.inr h)
     ·rintro ((h | h) | h | h)
      ·exact .inr (.inl (.inr h))
      ·exact .inl h
      ·exact .inr (.inl (.inl h))
      ·exact .inr (.inr h)
    refine ⟨S1.len,Vz X5.2 ?_ jf.2.2.1 (fun b m=>?_) fun b m=>?_,fun b m=>S1.dom b (List.mem_cons_of_mem _ m),fun j x e=>?_,c'⟩
    ·rw [List.nodup_append]
     exact ⟨jf.2.1,List.nodup_cons.mpr ⟨by simp,List.nodup_nil⟩,fun b m c m' e=>by
      rw [List.mem_singleton] at m'
      subst e m'
      exact jf.2.2.2 b List.mem_cons_self m⟩
    ·intro m'
     rcases List.mem_append.mp m' with m' | m'
     ·exact jf.2.2.2 b (List.mem_cons_of_mem _ m) m'
     ·rw [List.mem_singleton.mp m'] at m
      exact X5.1 m
    ·obtain ⟨p1,p2⟩:=S1.eZ m
     refine ⟨fun z=>p1 (List.mem_cons_of_mem _ z),fun m'=>?_⟩
     rcases List.mem_append.mp m' with m' | m'
     ·exact p2 m'
     ·rw [List.mem_singleton.mp m'] at p1
      exact p1 List.mem_cons_self
    ·obtain ⟨v,e3,r3⟩:=S1.slot j x e
     rw [gZ mm]
     refine ⟨v,e3,?_⟩
     cases x with
     | im d=>exact r3
     | ow d=>exact r3
     | ce n=>
      obtain ⟨b,e5,e6⟩:=r3
      exact ⟨b,e5,by rw [List.getElem?_append_left (List.getElem?_eq_some_iff.mp e6).1]; exact e6⟩
     | sc ns=>exact r3
   have S3:Sm K Z (Θ++[a]) (e1.set i (some (.ce C1.length))) (C1++[ns]) (σ.set i (some (.ref a))) H1:=
    S2.J8 (fun _ z=>nomatch z) ⟨a,rfl,by rw [cl,List.getElem?_append_right (Nat.le_refl _),Nat.sub_self]; rfl⟩
   exact q (Θ++[a]) _ H1 ⟨⟨[a],rfl,fun b m=>by rw [List.mem_singleton.mp m]; exact hn⟩,j9 k,fun b m=>.inl (f.own.subset (o1 b m)),S3⟩
  ·cases hf
 ·cases hf
theorem VH {i:Nat} {x:Str} {e:Expr} {f:FE} {pos':Pos} (hN:X.N.Nodup) (hi:X.N[i]?=some x) (hx:Loc X.env.scope x) (he:PE X e (tE X.K f)) (hs:swapsWith e (some (.Name x pos')) pos.line X.env=pure false:=by rfl) (hf:X.fn x=true∨X.env.scope.names.lookup x=some .local:=by first | exact .inl rfl | exact .inr rfl | assumption):
  PS X (.Assign [.Name x pos'] e pos) (tS X.K (Nr i f)):=(K8 hN hi hx he hs hf).weak Nt
end
noncomputable def jG (c:FT) (body:FS):Nat→FS
 | 0=>fun _ _=>none
 | n + 1=>fun env C=>match c env C with
  | some (false,C1)=>some (.nx,env,C1)
  | some (true,C1)=>match body env C1 with
   | some (.nx,e2,C2)=>jG c body n e2 C2
   | some (.ct,e2,C2)=>jG c body n e2 C2
   | some (.bk,e2,C2)=>some (.nx,e2,C2)
   | some (.rt r,e2,C2)=>some (.rt r,e2,C2)
   | none=>none
  | none=>none
noncomputable def Tz:Nat:=100000
noncomputable def fWh (c:FT) (body:FS):FS:=jG c body Tz
theorem Fq {K:PySem.W.Frag} {c:FT} {body:FS} {n:Nat}:∀D σ H,tS K (jG c body n) D σ H→K9 (lX K c) (tS K body) D σ H:=by
 rintro D σ H ⟨Z,Θ,env,C,fl,env',C',S,hf,q⟩
 refine ⟨fun m σ1 H1=>∃Θ1 e1 C1,ji K Z Θ env σ H Θ1 e1 C1 σ1 H1∧jG c body m e1 C1=some (fl,env',C'),⟨n,Θ,env,C,ji.same S,hf⟩,?_⟩
 rintro m σ1 H1 ⟨Θ1,e1,C1,p,hf⟩
 cases m with
 | zero=>cases hf
 | succ m=>
  unfold jG at hf
  split at hf
  ·rename_i C2 h1
   cases hf
   exact ⟨Z,Θ1,env',C1,false,C',p.sm,h1,fun H2 k2 S2=>wN (q Θ1 σ1 H2 (p.trans (ji.HR k2 (Fz.refl _) S2)))⟩
  ·rename_i C2 h1
   refine ⟨Z,Θ1,e1,C1,true,C2,p.sm,h1,fun H2 k2 S2=>wO ⟨fun σ' H'=>∃Θ1 e1 C1,ji K Z Θ env σ H Θ1 e1 C1 σ' H'∧jG c body m e1 C1=some (fl,env',C'),fun σ' H' h=>⟨m,Nat.lt_succ_self m,h⟩,?_⟩⟩
   have p2:=p.trans (ji.HR k2 (Fz.refl _) S2)
   split at hf
   ·rename_i e3 C3 h2
    exact ⟨Z,Θ1,e1,C2,.nx,e3,C3,S2,h2,fun Θ3 σ3 H3 p3=>⟨Θ3,e3,C3,p2.trans p3,hf⟩⟩
   ·rename_i e3 C3 h2
    exact ⟨Z,Θ1,e1,C2,.ct,e3,C3,S2,h2,fun Θ3 σ3 H3 p3=>⟨Θ3,e3,C3,p2.trans p3,hf⟩⟩
   ·rename_i e3 C3 h2
    cases hf
    exact ⟨Z,Θ1,e1,C2,.bk,env',C',S2,h2,fun Θ3 σ3 H3 p3=>q Θ3 σ3 H3 (p2.trans p3)⟩
   ·rename_i r e3 C3 h2
    cases hf
    exact ⟨Z,Θ1,e1,C2,.rt r,env',C',S2,h2,fun Θ3 v H3 p3=>q Θ3 v H3 (p2.ret p3)⟩
   ·cases hf
  ·cases hf
theorem Nu {X:Cx} {pos:Pos} {c:Expr} {body:List Stmt} {t:FT} {f:FS} (hp:PassesOwn (model X.prog X.w) X.A X.env X.xe) (hc:PT X c (lX X.K t)) (hb:tX X body (tS X.K f)):PS X (.While c body [] pos) (tS X.K (fWh t f)):=(La hp hc hb).weak Fq
noncomputable abbrev FI:=En→Ce→Option (List PyData×En×Ce)
noncomputable def wZ (P T:List Addr) (H:Hp) (J:It) (its:List PyData):Prop:=∀(i:Nat) (H2:Hp) (P2:List Addr),aU (er P H) (er P2 H2)→aU (er T H) (er T H2)→(∀a∈P2,H2 a≠none)→
 (∀d,its[i]?=some d→J.go i H2∧∀x H3,J.Sv i H2 x H3→aU H2 H3∧RZ (er P2 H3) d x)∧(i=its.length→J.stop i H2)
noncomputable def tI (K:PySem.W.Frag) (b:Bool) (f:FI):TI:=fun σ H R=>∃Z Θ env C its env' C',Sm K Z Θ env C σ H∧f env C=some (its,env',C')∧
 ∀J H',bF Θ H H'→Fz env env'→Sm K Z Θ env' C' σ H'→wZ (aK Z Θ env' σ) (if b then Θ else aK Z Θ env' σ) H' J its→R J H'
theorem PI.weak {X:Cx} {tg e:Expr} {t t':TI} (h:PI X tg e t) (w:∀σ H Q,t' σ H Q→t σ H Q):PI X tg e t':=fun pins s σ H Q I q=>h pins s σ H Q I (w σ H Q q)
theorem PI.or {X:Cx} {tg e:Expr} {t t':TI} (h:PI X tg e t) (h':PI X tg e t'):PI X tg e (fun σ H R=>t σ H R∨t' σ H R):=fun pins s σ H R I q=>q.elim (h pins s σ H R I) (h' pins s σ H R I)
section
variable {K:PySem.W.Frag} {P T:List Addr} {H:Hp} {a:Addr} {ds:List PyData} {vs:List V}
theorem zO (ha:er T H a=some (.lst vs)) (r:d8 (er P H) ds vs):wZ P T H (ZG K a) ds:=fun i H2 P2 s1 s2 n=>by
 have h2:cO K H2 a vs:=cO.of (bD (s2 _ _ ha))
 refine ⟨fun d hd=>?_,fun hi=>⟨vs,h2,by rw [bL r,hi]; exact Nat.le_refl _⟩⟩
 obtain ⟨v,ev,rv⟩:=j6 r hd
 refine ⟨⟨vs,v,h2,ev⟩,fun x H3 y=>?_⟩
 obtain ⟨rfl,y⟩:=y
 have:=y vs h2
 rw [ev] at this
 cases this
 exact ⟨aU.refl _,rv.same s1⟩
theorem Ft (ha:er P H a=some (.tup vs)) (r:d8 (er P H) ds vs):wZ P T H (ZJ K a) ds:=fun i H2 P2 s1 s2 n=>by
 have h2:eX K H2 a vs:=eX.of (bD (s1 _ _ ha))
 refine ⟨fun d hd=>?_,fun hi=>⟨vs,h2,by rw [bL r,hi]; exact Nat.le_refl _⟩⟩
 obtain ⟨v,ev,rv⟩:=j6 r hd
 refine ⟨⟨vs,v,h2,ev⟩,fun x H3 y=>?_⟩
 obtain ⟨rfl,y⟩:=y
 have:=y vs h2
 rw [ev] at this
 cases this
 exact ⟨aU.refl _,rv.same s1⟩
noncomputable def chars (z:Str):List PyData:=z.cps.toList.map fun c=>.str ⟨#[c]⟩
theorem Nv (z:Str):wZ P T H (Z5 z) (chars z):=fun i H2 P2 s1 s2 n=>by
 refine ⟨fun d hd=>?_,fun hi=>?_⟩
 ·unfold chars at hd
  rw [List.getElem?_map] at hd
  cases hc:z.cps.toList[i]? with
  | none=>rw [hc] at hd; cases hd
  | some c=>
   rw [hc] at hd
   cases hd
   have hc':z.cps[i]?=some c:=by rw [←Array.getElem?_toList]; exact hc
   have hlt:i < z.cps.size:=by
    obtain ⟨h,_⟩:=Array.getElem?_eq_some_iff.mp hc'
    exact h
   refine ⟨hlt,fun x H3 y=>?_⟩
   obtain ⟨rfl,c',ec,rfl⟩:=y
   rw [hc'] at ec
   cases ec
   exact ⟨aU.refl _,rfl⟩
 ·show z.cps.size≤i
  rw [hi]
  unfold chars
  rw [List.length_map,Array.length_toList]
  exact Nat.le_refl _
noncomputable def oE (lo:Int) (n:Nat):List PyData:=(List.range n).map fun (k:Nat)=>.int (lo + (k:Int))
theorem Nx (lo:Int) (n:Nat):wZ P T H (YT lo n) (oE lo n):=fun i H2 P2 s1 s2 nn=>by
 refine ⟨fun d hd=>?_,fun hi=>?_⟩
 ·unfold oE at hd
  rw [List.getElem?_map] at hd
  by_cases hlt:i < n
  ·rw [List.getElem?_range hlt] at hd
   cases hd
   refine ⟨hlt,fun x H3 y=>?_⟩
   obtain ⟨rfl,rfl⟩:=y
   exact ⟨aU.refl _,rfl⟩
  ·rw [List.getElem?_eq_none (by rw [List.length_range]; omega)] at hd
   cases hd
 ·show n≤i
  rw [hi]
  unfold oE
  rw [List.length_map,List.length_range]
  exact Nat.le_refl _
end
noncomputable def itD:PyData→Option (List PyData)
 | .list ds=>some ds
 | .tuple ds=>some ds
 | .str z=>some (chars z)
 | _=>none
noncomputable def iB (f:FB):FI:=fun env C=>match f env C with
 | some (d,e1,C1)=>match itD d with
  | some its=>some (its,e1,C1)
  | none=>none
 | none=>none
noncomputable def iV (f:FE):FI:=fun env C=>match f env C with
 | some (r,e1,C1)=>match still r with
  | .im d=>match itD d with
   | some its=>some (its,e1,C1)
   | none=>none
  | _=>none
 | none=>none
noncomputable def Dv (f:FB):FI:=fun env C=>match f env C with
 | some (.int j,_,C1)=>if -(2 ^ 62)≤j∧j < 2 ^ 62 then some (oE 0 j.toNat,env,C1) else none
 | _=>none
section
variable {X:Cx} {tg e:Expr}
theorem oF {f:FB} (h:PE X e (mL X.K f)) (hgo:∀i u,letOwnedTupleGo tg i u=pure ():=by intro _ _; rfl):PI X tg e (tI X.K true (iB f)):=(((yV h).or (DK h)).or (Mi h hgo)).weak fun σ H R aV=>by
 obtain ⟨Z,Θ,env,C,its,env',C',S,hf,q⟩:=aV
 unfold iB at hf
 split at hf
 ·rename_i d e1 C1 h1
  split at hf
  ·rename_i ys hi
   cases hf
   cases d <;> first | cases hi | skip
   ·refine .inr ⟨Z,Θ,env,C,_,env',C',S,h1,fun v H1 k f S1 b=>⟨_,b,q _ H1 k f S1 (Nv _)⟩⟩
   ·refine .inl (.inl ⟨Z,Θ,env,C,_,env',C',S,h1,fun v H1 k f S1 b=>?_⟩)
    obtain ⟨a,vs,rfl,ha,r⟩:=b
    exact ⟨a,rfl,⟨vs,cO.of (bD ha)⟩,q _ H1 k f S1 (zO ha r)⟩
   ·refine .inl (.inr ⟨Z,Θ,env,C,_,env',C',S,h1,fun v H1 k f S1 b=>?_⟩)
    obtain ⟨a,vs,rfl,ha,r⟩:=b
    exact ⟨a,rfl,⟨vs,eX.of (bD ha)⟩,q _ H1 k f S1 (Ft ha r)⟩
  ·cases hf
 ·cases hf
theorem zP {f:FE} (h:PE X e (tE X.K f)) (hgo:∀i u,letOwnedTupleGo tg i u=pure ():=by intro _ _; rfl):PI X tg e (tI X.K false (iV f)):=(((yV h).or (DK h)).or (Mi h hgo)).weak fun σ H R aV=>by
 obtain ⟨Z,Θ,env,C,its,env',C',S,hf,q⟩:=aV
 unfold iV at hf
 split at hf
 ·rename_i r e1 C1 h1
  split at hf
  ·rename_i d hd
   split at hf
   ·rename_i ys hi
    cases hf
    cases d <;> first | cases hi | skip
    ·refine .inr ⟨Z,Θ,env,C,_,env',C',S,h1,fun v H1 k f R=>?_⟩
     obtain ⟨S1,b⟩:=R.qw hd
     exact ⟨_,b,q _ H1 k f S1 (Nv _)⟩
    ·refine .inl (.inl ⟨Z,Θ,env,C,_,env',C',S,h1,fun v H1 k f R=>?_⟩)
     obtain ⟨S1,a,vs,rfl,ha,r⟩:=R.qw hd
     exact ⟨a,rfl,⟨vs,cO.of (bD ha)⟩,q _ H1 k f S1 (zO ha r)⟩
    ·refine .inl (.inr ⟨Z,Θ,env,C,_,env',C',S,h1,fun v H1 k f R=>?_⟩)
     obtain ⟨S1,a,vs,rfl,ha,r⟩:=R.qw hd
     exact ⟨a,rfl,⟨vs,eX.of (bD ha)⟩,q _ H1 k f S1 (Ft ha r)⟩
   ·cases hf
  ·cases hf
 ·cases hf
theorem iY {b:Bool} {a:Expr} {f:FB} {p pos:Pos} (hg:Gl X "range") (hm:X.mg "range"=none) (ha:PE X a (mL X.K f)) (hs:starEach [a] X.env=(false,eval a X.env)::starEach [] X.env:=by rfl) (hs':starEach [a] X.env=[(false,eval a X.env)]:=by rfl):PI X tg (.Call (.Name "range" p) [a] [] pos) (tI X.K b (Dv f)):=
 (Jp hg hm (aP ha bh hs) hs').weak fun σ H R aV=>by
  obtain ⟨Z,Θ,env,C,its,env',C',S,hf,q⟩:=aV
  unfold Dv at hf
  split at hf
  ·rename_i j e1 C1 h1
   split at hf
   ·rename_i hj
    cases hf
    refine ⟨Z,Θ,env,C,[.int j],e1,C',S,by unfold bCons bNil; rw [h1],fun vs H1 k f S1 b1=>?_⟩
    cases b1 with
    | cons b1 b2=>
     cases b2
     exact ⟨j,by rw [show _=V.int j from b1],hj.1,hj.2,q _ H1 k (Fz.refl _) (S.go k S1.cell) (Nx 0 j.toNat)⟩
   ·cases hf
  ·cases hf
end
noncomputable def lM (g:FG) (body:FS):List PyData→FS
 | []=>fun env C=>some (.nx,env,C)
 | d::r=>fun env C=>match g d env with
  | some e1=>match body e1 C with
   | some (.nx,e2,C2)=>lM g body r e2 C2
   | some (.ct,e2,C2)=>lM g body r e2 C2
   | some (.bk,e2,C2)=>some (.nx,e2,C2)
   | some (.rt v,e2,C2)=>some (.rt v,e2,C2)
   | none=>none
  | none=>none
noncomputable def fK (fi:FI) (g:FG) (body:FS):FS:=fun env C=>match fi env C with
 | some (its,e1,C1)=>lM g body its e1 C1
 | none=>none
theorem ji.er {K:PySem.W.Frag} {Z Θ Θ1:List Addr} {env e1:En} {C1:Ce} {σ σ1:St} {H H1:Hp} (p:ji K Z Θ env σ H Θ1 e1 C1 σ1 H1):aU (er (aK Z Θ env σ) H) (er (aK Z Θ1 e1 σ1) H1):=fun b o h=>by
 unfold L2.er at h ⊢
 split at h
 ·cases h
 ·rename_i n
  have hb:H b≠none:=by rw [h]; exact Option.some_ne_none _
  rw [if_neg]
  ·refine p.kp.keep b o h fun m=>n ?_
   rcases List.mem_append.mp m with m | m
   ·exact bJ.mpr (.inr (.inl m))
   ·exact bJ.mpr (.inr (.inr m))
  ·intro m
   rcases bJ.mp m with m | m | m
   ·exact n (bJ.mpr (.inl m))
   ·obtain ⟨Δ,e,hn⟩:=p.th.ex
    rw [e] at m
    rcases List.mem_append.mp m with m | m
    ·exact n (bJ.mpr (.inr (.inl m)))
    ·exact hb (hn b m)
   ·rcases p.own b m with m | m
    ·exact n (bJ.mpr (.inr (.inr m)))
    ·exact hb m
theorem Q6 {P P2:List Addr} {H H2:Hp} (s:aU (er P H) (er P2 H2)):aU (er P H) (er P H2):=fun b o h=>by
 have h2:=bD (s b o h)
 unfold er at h ⊢
 split at h
 ·cases h
 ·rename_i n
  rw [if_neg n]
  exact h2
theorem Ny {K:PySem.W.Frag} {fi:FI} {g:TG} {fg:FG} {body:FS} (L:Wt K g fg):∀D σ H,tS K (fK fi fg body) D σ H→W0 (tI K false fi) g (tS K body) D σ H:=by
 rintro D σ H ⟨Z,Θ,env,C,fl,env',C',S,hf,q⟩
 unfold fK at hf
 split at hf
 ·rename_i its e1 C1 h1
  refine ⟨Z,Θ,env,C,its,e1,C1,S,h1,fun J H1 k1 f1 S1 it=>?_⟩
  have p1:=ji.HR k1 f1 S1
  refine ⟨fun i m σ2 H2=>m=its.length - i∧i≤its.length∧∃Θ2 e2 C2,ji K Z Θ e1 σ H1 Θ2 e2 C2 σ2 H2∧lM fg body (its.drop i) e2 C2=some (fl,env',C'),⟨its.length,rfl,Nat.zero_le _,Θ,e1,C1,ji.same S1,hf⟩,?_⟩
  rintro i m σ2 H2 ⟨rfl,hi,Θ2,e2,C2,p2,hl⟩
  obtain ⟨VJ,VL⟩:=it i H2 (aK Z Θ2 e2 σ2) p2.er (Q6 p2.er) p2.sm.zy
  cases hd:its[i]? with
  | none=>
   have hi2:i=its.length:=by
    have:=List.getElem?_eq_none_iff.mp hd
    omega
   rw [hi2,List.drop_length] at hl
   cases hl
   exact .inl ⟨VL hi2,q Θ2 σ2 H2 (p1.trans p2)⟩
  | some d=>
   have hlt:i < its.length:=(List.getElem?_eq_some_iff.mp hd).1
   have ed:its.drop i=d::its.drop (i + 1):=by
    rw [List.drop_eq_getElem_cons hlt]
    obtain ⟨_,e⟩:=List.getElem?_eq_some_iff.mp hd
    rw [e]
   rw [ed] at hl
   unfold lM at hl
   obtain ⟨go,yl⟩:=VJ d hd
   refine .inr ⟨go,fun σ' H'=>∃Θ2 e2 C2,ji K Z Θ e1 σ H1 Θ2 e2 C2 σ' H'∧lM fg body (its.drop (i + 1)) e2 C2=some (fl,env',C'),fun σ' H' h=>⟨its.length - (i + 1),by omega,rfl,hlt,h⟩,fun x H3 y=>?_⟩
   obtain ⟨s3,r3⟩:=yl x H3 y
   have S3:=p2.sm.uN s3
   have p3:=p2.trans (ji.HR (bF.of s3) (Fz.refl _) S3)
   split at hl
   ·rename_i e4 h4
    refine L Z Θ2 e2 C2 σ2 H3 x d e4 S3 r3 h4 _ fun σ4 S4 o4=>?_
    have p4:ji K Z Θ e1 σ H1 Θ2 e4 C2 σ4 H3:=p3.trans ⟨zM.refl _ _,bF.refl _ _,fun a m=>.inl (o4 a m),S4⟩
    split at hl
    ·rename_i e5 C5 h5
     exact ⟨Z,Θ2,e4,C2,.nx,e5,C5,S4,h5,fun Θ5 σ5 H5 p5=>⟨Θ5,e5,C5,p4.trans p5,hl⟩⟩
    ·rename_i e5 C5 h5
     exact ⟨Z,Θ2,e4,C2,.ct,e5,C5,S4,h5,fun Θ5 σ5 H5 p5=>⟨Θ5,e5,C5,p4.trans p5,hl⟩⟩
    ·rename_i e5 C5 h5
     cases hl
     exact ⟨Z,Θ2,e4,C2,.bk,env',C',S4,h5,fun Θ5 σ5 H5 p5=>q Θ5 σ5 H5 (p1.trans (p4.trans p5))⟩
    ·rename_i r e5 C5 h5
     cases hl
     exact ⟨Z,Θ2,e4,C2,.rt r,env',C',S4,h5,fun Θ5 v H5 p5=>q Θ5 v H5 (p1.ret (p4.ret p5))⟩
    ·cases hl
   ·cases hl
 ·cases hf
theorem fj {X:Cx} {pos:Pos} {tg iter:Expr} {body:List Stmt} {fi:FI} {g:TG} {fg:FG} {f:FS} (hp:PassesOwn (model X.prog X.w) X.A X.env X.xe) (hc:X.calm=true) (hi:PI X tg iter (tI X.K false fi)) (hg:PG X tg g) (L:Wt X.K g fg) (hb:tX X body (tS X.K f))
  (hs:∀x,foldedSetIterable iter X.env x=pure x:=by intro _; rfl):PS X (.For tg iter body [] pos) (tS X.K (fK fi fg f)):=(Ur hp hc hi hg hb hs).weak (Ny L)
end L2
namespace L2
open PySem PySem.Spec PyProof.Rows PySem.W
noncomputable def TF:n6→PyData→Option (List PyData)
 | .one,d=>some [d]
 | .many n,.tuple ds=>if ds.length=n then some ds else none
 | _,_=>none
noncomputable def frB (js:List Nat) (env:En):En:=js.map fun j=>((env[j]?).join).map still
noncomputable def jj (ds:List PyData):En:=ds.map fun d=>some (.im d)
noncomputable def cG (T:n6) (ft:FT) (fe:FE) (fs:En):List PyData→Ce→Option (List PyData×Ce)
 | [],C=>some ([],C)
 | d::r,C=>match TF T d with
  | some ts=>match ft (jj ts++fs) C with
   | some (false,C1)=>cG T ft fe fs r C1
   | some (true,C1)=>match fe (jj ts++fs) C1 with
    | some (x,_,C2)=>match still x with
     | .im y=>match cG T ft fe fs r C2 with
      | some (ys,C3)=>some (y::ys,C3)
      | none=>none
     | _=>none
    | none=>none
   | none=>none
  | none=>none
noncomputable def nQ (js:List Nat) (env:En):En:=env.mapIdx fun i x=>if i∈js then x.map still else x
noncomputable def fLC (fi:FI) (T:n6) (ft:FT) (fe:FE) (js:List Nat):FE:=fun env C=>match fi env C with
 | some (its,e1,C1)=>match cG T ft fe (frB js e1) its C1 with
  | some (ys,C2)=>if ys.length≤LIM then some (.ow (.list ys),if fW ys then e1 else nQ js e1,C2) else none
  | none=>none
 | none=>none
theorem TJ:∀{a b:En},a.length=b.length→(∀(i:Nat) (x y:Option Vl),a[i]?=some x→b[i]?=some y→fz1 x y)→Fz a b
 | [],[],_,_=>trivial
 | x::r,y::t,hl,h=>⟨h 0 x y rfl rfl,TJ (by simpa using hl) fun i u v h1 h2=>h (i + 1) u v (by simpa using h1) (by simpa using h2)⟩
 | [],_::_,hl,_=>by cases hl
 | _::_,[],hl,_=>by cases hl
theorem mQ (js:List Nat) (env:En):Fz env (nQ js env):=TJ (by unfold nQ; rw [List.length_mapIdx]) fun i x y h1 h2=>by
 unfold nQ at h2
 rw [List.getElem?_mapIdx,h1] at h2
 have h2:(if i∈js then Option.map still x else x)=y:=Option.some.inj h2
 rw [←h2]
 split
 ·cases x with
  | none=>exact .inl rfl
  | some x=>
   cases x with
   | ow d=>exact .inr ⟨d,rfl,rfl⟩
   | im d=>exact .inl rfl
   | ce n=>exact .inl rfl
   | sc ns=>exact .inl rfl
 ·exact .inl rfl
theorem Nz {js:List Nat} {env:En} {k:Nat} {x:Vl} (h:(frB js env)[k]?=some (some x)):∃j:Nat,js[k]?=some j∧(nQ js env)[j]?=some (some x)∧∀d,x≠.ow d:=by
 unfold frB at h
 rw [List.getElem?_map] at h
 cases hj:js[k]? with
 | none=>rw [hj] at h; cases h
 | some j=>
  rw [hj] at h
  have h':((env[j]?).join).map still=some x:=Option.some.inj h
  refine ⟨j,rfl,?_,?_⟩
  ·unfold nQ
   rw [List.getElem?_mapIdx]
   cases hv:env[j]? with
   | none=>rw [hv] at h'; cases h'
   | some y=>
    rw [hv] at h'
    show some (if j∈js then Option.map still y else y)=_
    rw [if_pos (List.mem_of_getElem? hj)]
    exact congrArg some h'
  ·cases hv:(env[j]?).join with
   | none=>rw [hv] at h'; cases h'
   | some y=>
    rw [hv] at h'
    have e:still y=x:=Option.some.inj h'
    rw [←e]
    intro d z
    cases y <;> cases z
theorem kh:∀{env:En} {σ:St},(∀(i:Nat) (d:PyData),env[i]?≠some (some (.ow d)))→aX env σ=[]
 | [],σ,_=>by cases σ <;> rfl
 | _::_,[],_=>rfl
 | x::e,v::s,h=>by
  rw [aX,kh (env:=e) (σ:=s) fun i d z=>h (i + 1) d (by simpa using z)]
  have h0:=h 0
  simp at h0
  unfold own1
  split
  ·rename_i d a
   exact absurd rfl (h0 d)
  ·rfl
section
variable {K:PySem.W.Frag} {Z Θ:List Addr} {env:En} {C C2:Ce} {σ:St} {H H2:Hp} {D:Addr}
noncomputable abbrev kj (D:Addr) (Z:List Addr) (env:En) (σ:St):List Addr:=D::(Z++aX env σ)
theorem eV {js:List Nat} {a:Addr} {eB:En} {sB:St} (h:aX eB sB=[]):a∈aK (kj D Z env σ) Θ eB sB ↔ a=D∨a∈aK Z Θ env σ:=by
 rw [bJ,bJ,h,List.mem_cons,List.mem_append]
 constructor
 ·rintro ((h | h | h) | h | h)
  ·exact .inl h
  ·exact .inr (.inl h)
  ·exact .inr (.inr (.inr h))
  ·exact .inr (.inr (.inl h))
  ·nomatch h
 ·rintro (h | h | h | h)
  ·exact .inl (.inl h)
  ·exact .inl (.inr (.inl h))
  ·exact .inr (.inl h)
  ·exact .inl (.inr (.inr h))
theorem pA {js:List Nat} {ts:List PyData}:∀(i:Nat) (d:PyData),(jj ts++frB js env)[i]?≠some (some (.ow d)):=fun i d z=>by
 by_cases hi:i < (jj ts).length
 ·rw [List.getElem?_append_left hi] at z
  unfold jj at z
  rw [List.getElem?_map] at z
  cases h:ts[i]? with
  | none=>rw [h] at z; cases z
  | some t=>rw [h] at z; cases z
 ·rw [List.getElem?_append_right (by omega)] at z
  obtain ⟨j,_,_,h⟩:=Nz z
  exact h d rfl
theorem Sm.blk {js:List Nat} {ts:List PyData} {vs:List V} (S:Sm K Z Θ (nQ js env) C σ H) (hD:H D=Option.none) (k:bF Θ H H2) (nt:NT (H2 D)) (c:eY Θ C2 H2) (r:d8 (er (aK (kj D Z (nQ js env) σ) Θ [] []) H2) ts vs):
  Sm K (kj D Z (nQ js env) σ) Θ (jj ts++frB js env) C2 (vs.map some++frees js σ) H2:=by
 have no:=kh (env:=jj ts++frB js env) (σ:=vs.map some++frees js σ) pA
 have jf:=S.jf
 have lv:=bL r
 have Y6:(jj ts).length=ts.length:=by unfold jj; rw [List.length_map]
 have ee:er (aK (kj D Z (nQ js env) σ) Θ (jj ts++frB js env) (vs.map some++frees js σ)) H2=er (aK (kj D Z (nQ js env) σ) Θ [] []) H2:=gZ fun a=>by rw [eV (js:=js) no,eV (js:=js) rfl]
 have sm:aU (er (aK Z Θ (nQ js env) σ) H) (er (aK (kj D Z (nQ js env) σ) Θ [] []) H2):=fD k S.Hu fun b m=>by
  rcases (eV (js:=js) rfl).mp m with rfl | m
  ·exact .inr hD
  ·exact .inl m
 refine ⟨?_,?_,fun b m=>?_,fun i x e=>?_,c⟩
 ·rw [List.length_append,List.length_append,List.length_map,lv,Y6]
  unfold frees frB
  rw [List.length_map,List.length_map]
 ·show (kj D Z (nQ js env) σ++(Θ++aX (jj ts++frB js env) (vs.map some++frees js σ))).Nodup
  rw [no]
  refine Vz (List.nodup_cons.mpr ⟨fun m=>?_,?_⟩) jf.2.1 List.nodup_nil (fun b m m'=>?_) (fun _ m=>nomatch m)
  ·rcases List.mem_append.mp m with m | m
   ·exact (S.dom D m).ne hD
   ·exact S.zy D (bJ.mpr (.inr (.inr m))) hD
  ·rw [List.nodup_append]
   exact ⟨jf.1,jf.2.2.1,fun b m c' m' e=>by subst e; exact (S.eZ m').1 m⟩
  ·rcases List.mem_cons.mp m with rfl | m
   ·exact S.zy b (bJ.mpr (.inr (.inl m'))) hD
   ·rcases List.mem_append.mp m with m | m
    ·exact jf.2.2.2 b m m'
    ·exact (S.eZ m).2 m'
 ·rcases List.mem_cons.mp m with rfl | m
  ·exact nt
  ·have:NT (H b)∧b∉Θ:=by
    rcases List.mem_append.mp m with m | m
    ·exact ⟨S.dom b m,jf.2.2.2 b m⟩
    ·exact ⟨S.Y4 b (bJ.mpr (.inr (.inr m))),(S.eZ m).2⟩
   obtain ⟨⟨u,e,n⟩,nb⟩:=this
   exact ⟨u,k.keep _ _ e nb,n⟩
 ·rw [ee]
  by_cases hi:i < ts.length
  ·rw [List.getElem?_append_left (by rw [Y6]; exact hi)] at e
   unfold jj at e
   rw [List.getElem?_map] at e
   cases ht:ts[i]? with
   | none=>rw [ht] at e; cases e
   | some t=>
    rw [ht] at e
    cases e
    obtain ⟨v,ev,rv⟩:=j6 r ht
    exact ⟨v,by rw [List.getElem?_append_left (by rw [List.length_map,lv]; exact hi),List.getElem?_map,ev]; rfl,rv⟩
  ·rw [List.getElem?_append_right (by rw [Y6]; omega),Y6] at e
   obtain ⟨j,hj,hx,nx⟩:=Nz e
   obtain ⟨v,ev,rv⟩:=S.slot j x hx
   refine ⟨v,?_,rv.same sm fun d _ z=>absurd z (nx d)⟩
   rw [List.getElem?_append_right (by rw [List.length_map,lv]; omega),List.length_map,lv]
   unfold frees
   rw [List.getElem?_map,hj]
   show some ((σ[j]?).join)=_
   rw [ev]
   rfl
end
noncomputable def dN:FT:=fun _ C=>some (true,C)
theorem dg {X:Cx}:Du X [] (lX X.K dN):=fun pins s σ H Q I aV=>by
 obtain ⟨Z,Θ,env,C,b,C',S,hf,q⟩:=aV
 cases hf
 exact Qt pins s σ H Q I (q H (bF.refl _ _) S)
theorem jk {X:Cx} {c:Expr} {f:FT} (h:PT X c (lX X.K f)):Du X [c] (lX X.K f):=Qu h
theorem NB {K:PySem.W.Frag} {T:n6} {E H:Hp} {d:PyData} {x:V} {ts:List PyData} (h:TF T d=some ts) (r:RZ E d x) (s:aU E H):∃vs,S8 K T x H vs∧d8 E ts vs:=by
 cases T with
 | one=>cases h; exact ⟨[x],rfl,x,[],rfl,r,rfl⟩
 | many n=>
  cases d <;> first | cases h | skip
  rename_i ds
  have h:(if ds.length=n then some ds else none)=some ts:=h
  split at h
  ·rename_i hl
   cases h
   obtain ⟨a,vs,rfl,ha,r⟩:=r
   exact ⟨vs,⟨a,rfl,eX.of (s _ _ ha),(bL r).trans hl⟩,r⟩
  ·cases h
theorem Ia {K:PySem.W.Frag} {fi:FI} {T:n6} {ft:FT} {fe:FE} {js:List Nat}:∀σ H Q,tE K (fLC fi T ft fe js) σ H Q→Z3 K (tI K true fi) T (fun _=>lX K ft) (fun _=>tE K fe) js σ H Q:=by
 rintro σ H Q ⟨Z,Θ,env,C,res,env',C',S,hf,q⟩
 unfold fLC at hf
 split at hf
 case h_2=>cases hf
 rename_i its e1 C1 h1
 split at hf
 case h_2=>cases hf
 rename_i ys C2 h2
 split at hf
 case isFalse=>cases hf
 rename_i hl
 cases hf
 refine ⟨Z,Θ,env,C,its,e1,C1,S,h1,fun J H1 k1 f1 S1 it D hD b=>?_⟩
 have Py:=S1.fz (mQ js e1)
 have it':wZ (aK Z Θ e1 σ) Θ H1 J its:=it
 let PB:=aK (kj D Z (nQ js e1) σ) Θ [] []
 have Ck:∀a,a∈PB ↔ a=D∨a∈aK Z Θ (nQ js e1) σ:=fun a=>eV (js:=js) rfl
 have dPB:D∈PB:=(Ck D).mpr (.inl rfl)
 refine ⟨fun i m H2=>m=its.length - i∧i≤its.length∧∃acc fX C2 ys',bF Θ H1 H2∧eY Θ C2 H2∧H2 D=some (.lst fX)∧d8 (er PB H2) acc fX∧cG T ft fe (frB js e1) (its.drop i) C2=some (ys',C')∧acc++ys'=ys,
  ⟨its.length,rfl,Nat.zero_le _,[],[],C1,ys,bF.upd hD,⟨S1.cell.len,fun n b ns e2 e3=>?_⟩,aH,rfl,h2,rfl⟩,?_⟩
 ·have:=S1.cell.at_ n b ns e2 e3
  rw [aJ (bB this hD)]
  exact this
 rintro i m H2 ⟨rfl,hi,acc,fX,Ci,ys',ki,ci,hDi,ri,hc,ea⟩
 have X7:aU (er (aK Z Θ e1 σ) H1) (er PB H2):=fD ki S1.Hu fun b m=>by
  rcases (Ck b).mp m with rfl | m
  ·exact .inr hD
  ·exact .inl ((mQ js e1).sub b m)
 have X8:Sm K (kj D Z (nQ js e1) σ) Θ (jj []++frB js e1) Ci (([]:List V).map some++frees js σ) H2:=Py.blk hD ki ⟨_,hDi,fun _ z=>nomatch z⟩ ci (show d8 _ [] [] from rfl)
 have NK:∀a∈PB,H2 a≠none:=fun a m=>by
  have:=X8.zy a ((eV (js:=js) (kh (env:=jj []++frB js e1) pA)).mpr ((Ck a).mp m))
  exact this
 obtain ⟨VJ,VL⟩:=it' i H2 PB X7 (zA ki) NK
 cases hd:its[i]? with
 | none=>
  have hi2:i=its.length:=by
   have:=List.getElem?_eq_none_iff.mp hd
   omega
  rw [hi2,List.drop_length] at hc
  cases hc
  rw [List.append_nil] at ea
  subst ea
  refine .inl ⟨VL hi2,q _ H2 (k1.trans ki) ?_ ?_⟩
  ·split
   ·exact f1
   ·exact f1.trans (mQ js e1)
  ·refine ⟨D,rfl,k1.none hD,?_⟩
   split
   ·rename_i hn
    have SD:=S1.BW hD ki ⟨_,hDi,fun _ z=>nomatch z⟩ ci
    exact ⟨SD,fX,hDi,ri.wW (fun a vs e=>uT SD (bD e)) hn⟩
   ·have SD:=Py.BW hD ki ⟨_,hDi,fun _ z=>nomatch z⟩ ci
    refine ⟨SD,fX,hDi,?_⟩
    have:er PB H2=er (aK (D::Z) Θ (nQ js e1) σ) H2:=gZ fun a=>by
     rw [Ck]
     show _ ↔ a∈D::aK Z Θ (nQ js e1) σ
     rw [List.mem_cons]
    rw [←this]
    exact ri
 | some d=>
  have hlt:i < its.length:=(List.getElem?_eq_some_iff.mp hd).1
  have ed:its.drop i=d::its.drop (i + 1):=by
   rw [List.drop_eq_getElem_cons hlt]
   obtain ⟨_,e⟩:=List.getElem?_eq_some_iff.mp hd
   rw [e]
  rw [ed] at hc
  unfold cG at hc
  obtain ⟨go,yl⟩:=VJ d hd
  refine .inr ⟨go,fun x H3 y=>?_⟩
  obtain ⟨s3,r3⟩:=yl x H3 y
  split at hc
  case h_2=>cases hc
  rename_i ts ht
  obtain ⟨vs,tv,rvs⟩:=NB (K:=K) ht r3 (tB _ _)
  refine ⟨vs,tv,?_⟩
  have k3:bF Θ H1 H3:=ki.trans (bF.of s3)
  have Ka:H3 D=some (.lst fX):=s3 _ _ hDi
  have c3:eY Θ Ci H3:=⟨ci.len,fun n b ns e2 e3=>s3 _ _ (ci.at_ n b ns e2 e3)⟩
  have r3':d8 (er PB H3) acc fX:=ri.same (nH s3)
  have SB:Sm K (kj D Z (nQ js e1) σ) Θ (jj ts++frB js e1) Ci (vs.map some++frees js σ) H3:=Py.blk hD k3 ⟨_,Ka,fun _ z=>nomatch z⟩ c3 rvs
  have ePB:∀Hx,er (aK (kj D Z (nQ js e1) σ) Θ (jj ts++frB js e1) (vs.map some++frees js σ)) Hx=er PB Hx:=fun Hx=>gZ fun a=>by rw [eV (js:=js) (kh pA),Ck]
  have xg:D∉Θ:=fun m=>(S1.cell.dom D m).ne hD
  have stay:∀{Hx Hy:Hp},bF Θ Hx Hy→Hx D=some (.lst fX)→d8 (er PB Hx) acc fX→Hy D=some (.lst fX)∧d8 (er PB Hy) acc fX:=fun {Hx Hy} kk h1 h2=>
   ⟨kk.keep _ _ h1 xg,h2.same (fD kk (fun a m=>(Ck a).mpr (.inr (bJ.mpr (.inr (.inl m))))) fun a m=>.inl m)⟩
  split at hc
  ·rename_i Ct NP
   refine ⟨_,Θ,_,Ci,false,Ct,SB,NP,fun H4 k4 S4=>wN ⟨its.length - (i + 1),by omega,rfl,hlt,acc,fX,Ct,ys',k3.trans k4,S4.cell,(stay k4 Ka r3').1,(stay k4 Ka r3').2,hc,ea⟩⟩
  ·rename_i Ct NP
   split at hc
   case h_2=>cases hc
   rename_i xr eB CB hfe
   split at hc
   case h_2=>cases hc
   rename_i yd Yb
   split at hc
   case h_2=>cases hc
   rename_i zs Cz hzs
   cases hc
   refine ⟨_,Θ,_,Ci,true,Ct,SB,NP,fun H4 k4 S4=>wO ⟨_,Θ,_,Ct,xr,eB,CB,S4,hfe,fun y H5 k5 f5 R5=>?_⟩⟩
   obtain ⟨S5,r5⟩:=R5.qw Yb
   obtain ⟨hD4,r4⟩:=stay k4 Ka r3'
   obtain ⟨Yc,Y7⟩:=stay k5 hD4 r4
   have noB:aX eB (vs.map some++frees js σ)=[]:=by
    have:=(Fz.own (σ:=vs.map some++frees js σ) f5)
    rw [kh pA] at this
    exact List.sublist_nil.mp this
   have e5:er (aK (kj D Z (nQ js e1) σ) Θ eB (vs.map some++frees js σ)) H5=er PB H5:=gZ fun a=>by rw [eV (js:=js) noB,Ck]
   rw [e5] at r5
   have la:=bL Y7
   have lt:acc.length < LIM∧True:=by
    have:=congrArg List.length ea
    rw [List.length_append,List.length_cons] at this
    exact ⟨by omega,trivial⟩
   refine ⟨fX,Yc,by rw [la,sizeLine_eq]; have:=lt.1; unfold LIM at this; omega,its.length - (i + 1),by omega,rfl,hlt,acc++[yd],fX++[y],CB,zs,?_,?_,aH,?_,hzs,by rw [←ea,List.append_assoc]; rfl⟩
   ·have kk:=(k3.trans k4).trans k5
    refine ⟨fun a o ha na=>?_,fun a ha=>?_⟩
    ·rw [aJ (bB ha hD)]
     exact kk.keep _ _ ha na
    ·by_cases z:a=D
     ·subst z; rw [aH]; exact Option.some_ne_none _
     ·rw [aJ z]; exact kk.dom a ha
   ·refine ⟨S5.cell.len,fun n b ns e2 e3=>?_⟩
    rw [aJ]
    ·exact S5.cell.at_ n b ns e2 e3
    ·intro z
     subst z
     exact xg (List.mem_of_getElem? e2)
   ·rw [Fo dPB]
    exact nO Y7 ⟨y,[],rfl,r5,rfl⟩
  ·cases hc
section
variable {X:Cx} {NT NF:List Str} {js:List Nat} {elt tg iter:Expr} {ifs:List Expr} {T:n6} {fi:FI} {ft:FT} {fe:FE} {scope:Scope} {pos:Pos}
theorem gJ (B:jU X NT NF js scope) (tk:p6 tg NT T) (hc:X.calm=true) (hi:PI X tg iter (tI X.K true fi))
  (hin:∀b,Du (X.bk (NT++NF) scope b) ifs (lX X.K ft)∧PE (X.bk (NT++NF) scope b) elt (tE X.K fe))
  (hs:∀x,foldedSetIterable iter X.env x=pure x:=by intro _; rfl):PE X (.ListComp elt [⟨tg,iter,ifs,0⟩] scope pos) (tE X.K (fLC fi T ft fe js)):=(Xp B tk hc hi hin hs).weak Ia
theorem qx {i:Nat} {y:Str} {pos' spos:Pos} (B:jU X NT NF js scope) (tk:p6 tg NT T) (hc:X.calm=true) (hi:PI X tg iter (tI X.K true fi))
  (hin:∀b,Du (X.bk (NT++NF) scope b) ifs (lX X.K ft)∧PE (X.bk (NT++NF) scope b) elt (tE X.K fe))
  (hsw:swapsWith (.ListComp elt [⟨tg,iter,ifs,0⟩] scope pos) (some (.Name y pos')) spos.line X.env=pure true) (hN:X.N.Nodup) (hI:X.N[i]?=some y) (hy:X.env.scope.names.lookup y=some .local)
  (hs:∀x,foldedSetIterable iter X.env x=pure x:=by intro _; rfl):PS X (.Assign [.Name y pos'] (.ListComp elt [⟨tg,iter,ifs,0⟩] scope pos) spos) (tS X.K (fSet i (fLC fi T ft fe js))):=(Mg B tk hc hi hin hsw hN hI hy hs).weak (uY Ia)
end
end L2
namespace L2
open PySem PySem.Spec PyProof.Rows PySem.W
noncomputable def Cm (n:Nat):Vl→Bool
 | .ce m=>decide (m < n)
 | _=>true
noncomputable def fN (k n:Nat) (body:FS):FN:=fun xs C=>if xs.length=k then match body (xs.map some++List.replicate (n - xs.length) none) C with
  | some (.rt r,_,C')=>if Cm C.length r then some (r,C'.take C.length) else none
  | some (.nx,_,C')=>some (.im .none,C'.take C.length)
  | _=>none
 else none
section
variable {K:PySem.W.Frag} {Z Θ:List Addr} {C:Ce} {H:Hp} {xs:List Vl} {vs:List V}
theorem u0 {E:Hp} (a:gY K E Θ xs vs):vs.length=xs.length:=by
 induction a with
 | nil=>rfl
 | cons _ _ ih=>rw [List.length_cons,List.length_cons,ih]
theorem Q7 {E:Hp} (a:gY K E Θ xs vs):∀{i:Nat} {x:Vl},xs[i]?=some x→∃v,vs[i]?=some v∧qu K E Θ x v:=by
 induction a with
 | nil=>intro i x e; simp at e
 | cons h _ ih=>
  intro i x e
  cases i with
  | zero=>simp at e; subst e; exact ⟨_,rfl,h⟩
  | succ i=>
   obtain ⟨v,e2,h2⟩:=ih (i:=i) (by simpa using e)
   exact ⟨v,by simpa using e2,h2⟩
theorem Sm.start {n:Nat} (S:Sm K Z Θ [] C [] H) (a:gY K (er (aK Z Θ [] []) H) Θ xs vs):Sm K Z Θ (xs.map some++List.replicate n Option.none) C (vs.map some++List.replicate n Option.none) H∧aX (xs.map some++List.replicate n Option.none) (vs.map some++List.replicate n Option.none)=[]:=by
 have lv:=u0 a
 have at':∀{i:Nat} {x:Vl},(xs.map some++List.replicate n Option.none)[i]?=some (some x)→∃v,vs[i]?=some v∧qu K (er (aK Z Θ [] []) H) Θ x v∧i < vs.length:=fun {i x} e=>by
  by_cases hi:i < xs.length
  ·rw [List.getElem?_append_left (by rw [List.length_map]; exact hi),List.getElem?_map] at e
   cases hx:xs[i]? with
   | none=>rw [hx] at e; cases e
   | some y=>
    rw [hx] at e
    cases e
    obtain ⟨v,e1,h⟩:=Q7 a hx
    exact ⟨v,e1,h,by rw [lv]; exact hi⟩
  ·rw [List.getElem?_append_right (by rw [List.length_map]; omega)] at e
   have:=List.mem_of_getElem? e
   exact nomatch (List.eq_of_mem_replicate this)
 have no:aX (xs.map some++List.replicate n Option.none) (vs.map some++List.replicate n Option.none)=[]:=kh fun i d e=>by
  obtain ⟨v,_,h,_⟩:=at' e
  exact h
 refine ⟨⟨by simp [lv],?_,S.dom,fun i x e=>?_,S.cell⟩,no⟩
 ·show (Z++(Θ++aX _ _)).Nodup
  rw [no]
  exact S.nd
 ·obtain ⟨v,e1,h,hl⟩:=at' e
  refine ⟨v,by rw [List.getElem?_append_left (by rw [List.length_map]; exact hl),List.getElem?_map,e1]; rfl,?_⟩
  have ee:er (aK Z Θ (xs.map some++List.replicate n Option.none) (vs.map some++List.replicate n Option.none)) H=er (aK Z Θ [] []) H:=by
   show er (Z++(Θ++aX _ _)) H=_
   rw [no]
   rfl
  rw [ee]
  cases x with
  | im d=>exact h
  | ow d=>exact h.elim
  | ce m=>exact h
  | sc ns=>exact h
theorem Sm.cut {Δ:List Addr} (S:Sm K Z (Θ++Δ) [] C [] H):Sm K Z Θ [] (C.take Θ.length) [] H:=by
 have jf:=S.jf
 have cl:=S.cell.len
 rw [List.length_append] at cl
 refine ⟨rfl,Vz jf.1 (List.nodup_append.mp jf.2.1).1 List.nodup_nil (fun b m m'=>jf.2.2.2 b m (List.mem_append_left _ m')) (fun _ m=>nomatch m),S.dom,fun i x e=>by simp at e,⟨by rw [List.length_take]; omega,fun n a ns e1 e2=>?_⟩⟩
 have hn:n < Θ.length:=(List.getElem?_eq_some_iff.mp e1).1
 rw [List.getElem?_take,if_pos hn] at e2
 exact S.cell.at_ n a ns (by rw [List.getElem?_append_left hn]; exact e1) e2
theorem HQ.cut {Θ':List Addr} {H':Hp} {C':Ce} {O:List Addr} {r:Vl} {v:V} (t:zM Θ Θ' H) (ok:Cm Θ.length r=true) (no:O=[]) (h:HQ K Z Θ' C' O H H' r v):Res K Z Θ [] (C'.take Θ.length) [] H H' r v:=by
 obtain ⟨Δ,rfl,hn⟩:=t.ex
 have sm:∀{Y:List Addr},aU (er (aK Y (Θ++Δ) [] []) H') (er (aK Y Θ [] []) H'):=fun {Y}=>jE fun a m=>by
  rcases bJ.mp m with m | m | m
  ·exact bJ.mpr (.inl m)
  ·exact bJ.mpr (.inr (.inl (List.mem_append_left _ m)))
  ·nomatch m
 cases r with
 | im d=>exact ⟨h.1.cut,h.2.same sm⟩
 | ow d=>
  obtain ⟨a,e,m,S,r⟩:=h
  refine ⟨a,e,?_,S.cut,r.same sm fun _ h=>h⟩
  rcases m with m | m
  ·rw [no] at m; nomatch m
  ·exact m
 | ce n=>
  obtain ⟨S,a,e,e2⟩:=h
  refine ⟨S.cut,a,e,?_⟩
  rw [List.getElem?_append_left (of_decide_eq_true ok)] at e2
  exact e2
 | sc ns=>
  obtain ⟨S,a,e,q⟩:=h
  exact ⟨S.cut,a,e,sm.seq q⟩
end
section
variable {P:Program} {w:World} {K:PySem.W.Frag} {mg:Str→Option Value} {base:Heap}
theorem fY {x qual:Str} {st:Stmt} {f:Addr} {fd:FuncData} {N ps:List Str} {k:Nat} {body:FS} {k1 k2:Nat} (F:tZ K x qual st f fd) (S:bY N ps (aC st))
  (hb:∀(cdv:Value) (A:Around) (outer:List Env) (s:Shared) (H:Hp) (E:XK),fH k (A.deeper (envOfC qual (aC st) s.heap.objs.size f cdv))→tX (DY qO P w K mg base N qual (aC st) f cdv A outer s H E).PX (bO st) (tS K body))
  (e1:k1=ps.length:=by rfl) (e2:k2=N.length:=by rfl):dM P w K mg base qO (k + 1) f fd ps (spT K (fN k1 k2 body)):=by
 subst e1 e2
 refine F.ok S (fun vs H Q E h=>?_) (fun cdv A outer s H vs Q E hr h=>⟨_,hb cdv A outer s H E hr,?_⟩)
 ·obtain ⟨Z,Θ,C,xs,r,C',S0,a,hf,_⟩:=h
  unfold fN at hf
  split at hf
  ·rename_i hl; rw [u0 a,hl]
  ·cases hf
 ·obtain ⟨Z,Θ,C,xs,r,C',S0,a,hf,q⟩:=h
  unfold fN at hf
  split at hf
  case isFalse=>cases hf
  rename_i hl
  have lv:=u0 a
  obtain ⟨S1,no⟩:=S0.start (n:=N.length - vs.length) a
  rw [lv] at S1 no
  have hs:start N vs=vs.map some++List.replicate (N.length - xs.length) none:=by unfold start; rw [lv]
  rw [hs]
  have cl:=S0.cell.len
  split at hf
  ·rename_i r0 e' C1 hb'
   split at hf
   ·rename_i hok
    cases hf
    refine ⟨Z,Θ,_,C,.rt r,e',C1,S1,hb',fun Θ' v H' R=>?_⟩
    have kp:=R.kp
    rw [no,List.append_nil] at kp
    rw [cl] at q hok
    exact q v H' kp (R.ok.cut R.th hok no)
   ·cases hf
  ·rename_i e' C1 hb'
   cases hf
   refine ⟨Z,Θ,_,C,.nx,e',C1,S1,hb',fun Θ' σ' H' R=>?_⟩
   have kp:=R.kp
   rw [no,List.append_nil] at kp
   obtain ⟨Δ,e,hn⟩:=R.th.ex
   have S2:=R.sm.none
   rw [e] at S2
   rw [cl] at q
   exact q .non H' kp ⟨S2.cut,rfl⟩
  ·cases hf
theorem VM {f:FN} {C':Ce} {H:Hp} {a:Addr} {ns:List Int} {E:XK} (hS:cO K H a (ns.map V.int)) (h:f [.sc ns] []=some (.im (.bool true),C')):spT K f [.ref a] H (fun v _=>v=.bl true) E:=by
 refine ⟨[],[],[],[.sc ns],_,C',⟨rfl,List.nodup_nil,(fun _ m=>nomatch m),fun i x e=>by simp at e,⟨rfl,fun n b ms e _=>by simp at e⟩⟩,.cons ⟨a,rfl,?_⟩ .nil,h,fun v H' _ R=>R.2⟩
 show cO K (er [] H) a _
 rw [uJ]
 exact hS
end
noncomputable def tG (i:Nat):FE:=fun env C=>match env[i]? with
 | some (some (.sc ns))=>some (.im (.int ns.length),env,C)
 | _=>none
noncomputable def NQ (i:Nat) (f:FB):FE:=fun env C=>match env[i]? with
 | some (some (.sc ns))=>match f env C with
  | some (.int k,_,C1)=>match jB ns k with
   | some z=>some (.im (.int z),env,C1)
   | none=>none
  | _=>none
 | _=>none
section
variable {X:Cx} {o k:Expr} {i:Nat} {p pos:Pos}
theorem Ib (ho:PE X o (wK i)) (hg:Gl X "len") (hm:X.mg "len"=none) (hv:bootBuiltins "len"=some (.builtin "len"))
  (he:starEach [o] X.env=(false,eval o X.env)::starEach [] X.env:=by rfl) (hpl:(backTo pos (starEach [] X.env)).any (·.1)=false:=by rfl):PE X (.Call (.Name "len" p) [o] [] pos) (tE X.K (tG i)):=
 (pQ pW hg hm hv (dX ho jA he) (by decide) (by decide) he hpl).weak fun σ H Q aV=>by
  obtain ⟨Z,Θ,env,C,r,env',C',S,hf,q⟩:=aV
  unfold tG at hf
  split at hf
  ·rename_i ns h0
   cases hf
   obtain ⟨v,ev,a,rfl,sq⟩:=S.slot i _ h0
   have:=q (.int ns.length) H (bF.refl _ _) (Fz.refl _) ⟨S,rfl⟩
   exact ⟨_,ev,a,_,rfl,.inl ((tB _ _).seq sq),by rw [List.length_map]; exact this⟩
  ·cases hf
theorem VN {f:FB} (ho:PE X o (wK i)) (hk:PE X k (mL X.K f)) (hs:t7 k):PE X (.Subscript o k pos) (tE X.K (NQ i f)):=(Lw zc ho hk hs).weak fun σ H Q aV=>by
 obtain ⟨Z,Θ,env,C,r,env',C',S,hf,q⟩:=aV
 unfold NQ at hf
 split at hf
 case h_2=>cases hf
 rename_i ns h0
 split at hf
 case h_2=>cases hf
 rename_i z e1 C1 h1
 split at hf
 case h_2=>cases hf
 rename_i y hy
 cases hf
 obtain ⟨v,ev,a,rfl,sq⟩:=S.slot i _ h0
 refine ⟨_,ev,Z,Θ,env,C,_,e1,C',S,h1,fun w H1 k1 f1 S1 b1=>?_⟩
 have S2:=S.go k1 S1.cell
 obtain ⟨v2,ev2,a2,ea2,sq2⟩:=S2.slot i _ h0
 rw [ev] at ev2
 cases ev2
 cases ea2
 refine ⟨a,_,z,.int y,rfl,b1,(tB _ _).seq sq2,?_,q _ H1 k1 (Fz.refl _) ⟨S2,rfl⟩⟩
 unfold jB at hy ⊢
 rw [List.length_map]
 cases hj:Ec ns.length z with
 | none=>rw [hj] at hy; cases hy
 | some j=>
  rw [hj] at hy
  show (ns.map V.int)[j]?=_
  rw [List.getElem?_map,show ns[j]?=some y from hy]
  rfl
end
end L2
namespace L2
open PySem PySem.Spec PyProof.Rows PySem.W
section
variable {K:PySem.W.Frag} {X:Cx}
theorem jl {Z Θ:List Addr} {env:En} {σ:St} {H:Hp} {d:PyData} {vs:List V} (h:Hv Z Θ env σ H [d] vs):∃v,vs=[v]∧d9 Z Θ env σ H d v:=by
 cases h with
 | cons a b=>cases b; exact ⟨_,rfl,a⟩
theorem Ie {Z Θ:List Addr} {env:En} {σ:St} {H:Hp} {d e:PyData} {vs:List V} (h:Hv Z Θ env σ H [d,e] vs):∃v w,vs=[v,w]∧d9 Z Θ env σ H d v∧d9 Z Θ env σ H e w:=by
 cases h with
 | cons a b=>
  cases b with
  | cons b c=>cases c; exact ⟨_,_,rfl,a,b⟩
noncomputable def Q8:PyData→Option Nat
 | .list ds=>some ds.length
 | .tuple ds=>some ds.length
 | .str z=>if z.length≤LIM then some z.length else none
 | .dict kvs=>if (cF d7 kvs).isSome then some kvs.length else none
 | _=>none
noncomputable def jX:List PyData→Option Vl
 | [d]=>(Q8 d).map fun n=>.im (.int n)
 | _=>none
noncomputable def TQ (K:PySem.W.Frag):List V→Hp→VK→Prop:=fun xs H Q=>((∃p ys,xs=[.ref p]∧(cO K H p ys∨eX K H p ys)∧Q (.int ys.length) H)∨∃z,xs=[.str z]∧z.length≤sizeLine∧Q (.int z.length) H)∨∃a kvs,xs=[V.ref a]∧H a=some (.dK kvs)∧Q (.int kvs.length) H
theorem fG:cD X (.builtin "len") (TQ X.K):=(pW.or zj).or JG
theorem mR:wY K (TQ K) jX:=by
 intro Z Θ env C σ H xs ds res S b e Q q
 unfold jX at e
 split at e
 case h_2=>cases e
 rename_i d
 obtain ⟨v,rfl,bb⟩:=jl b
 cases hn:Q8 d with
 | none=>rw [hn] at e; cases e
 | some n=>
  rw [hn] at e
  cases e
  have fin:=q (.int n) H (bF.refl _ _) (aZ S rfl rfl)
  cases d <;> first | cases hn | skip
  ·rename_i z
   simp only [Q8] at hn
   split at hn
   ·rename_i hl
    cases hn
    cases bb.str
    exact .inl (.inr ⟨z,rfl,dO hl,fin⟩)
   ·cases hn
  ·obtain ⟨a,vs,rfl,ha,r⟩:=bb.lst
   exact .inl (.inl ⟨a,vs,rfl,.inl (cO.of ha),by rw [bL r]; exact fin⟩)
  ·obtain ⟨a,vs,rfl,ha,r⟩:=bb.tup
   exact .inl (.inl ⟨a,vs,rfl,.inr (eX.of ha),by rw [bL r]; exact fin⟩)
  ·rename_i kvs
   simp only [Q8] at hn
   split at hn
   ·rename_i hs
    cases hn
    obtain ⟨a,vs,rfl,da,r⟩:=bb.dct
    rcases da with ⟨ks,h1,ha⟩ | ⟨ks,⟨ne,h2⟩,ha⟩
    ·refine .inr ⟨a,_,rfl,ha,?_⟩
     rw [List.length_zip,iU h1,uf r,Nat.min_self]
     exact fin
    ·obtain ⟨ks',h1⟩:=Option.isSome_iff_exists.mp hs
     exact absurd (jV h1 h2) ne
   ·cases hn
noncomputable def Cp:List PyData→Option Vl
 | [.int i]=>some (.im (.int (if i < 0 then -i else i)))
 | _=>none
theorem NZ:wY K (fun xs H Q=>∃i,xs=[.int i]∧Q (.int (if i < 0 then -i else i)) H) Cp:=by
 intro Z Θ env C σ H xs ds res S b e Q q
 unfold Cp at e
 split at e
 case h_2=>cases e
 cases e
 obtain ⟨v,rfl,bb⟩:=jl b
 cases bb.int
 exact ⟨_,rfl,q _ H (bF.refl _ _) (aZ S rfl rfl)⟩
noncomputable def Ig:List PyData→Option Vl
 | [.int i]=>some (.im (.int i))
 | [.bool k]=>some (.im (.int (if k then 1 else 0)))
 | _=>none
theorem VP:wY K (fun xs H Q=>(∃i,xs=[.int i]∧Q (.int i) H)∨∃k,xs=[.bl k]∧Q (.int (if k then 1 else 0)) H) Ig:=by
 intro Z Θ env C σ H xs ds res S b e Q q
 unfold Ig at e
 split at e
 case h_3=>cases e
 ·cases e
  obtain ⟨v,rfl,bb⟩:=jl b
  cases bb.int
  exact .inl ⟨_,rfl,q _ H (bF.refl _ _) (aZ S rfl rfl)⟩
 ·cases e
  obtain ⟨v,rfl,bb⟩:=jl b
  cases (show v=.bl _ from bb)
  exact .inr ⟨_,rfl,q _ H (bF.refl _ _) (aZ S rfl rfl)⟩
noncomputable def zQ:List PyData→Option Vl
 | [.int i,.int j]=>some (.im (.int (if j > i then j else i)))
 | _=>none
noncomputable def zR:List PyData→Option Vl
 | [.int i,.int j]=>some (.im (.int (if j < i then j else i)))
 | _=>none
theorem Q9:wY K (fun xs H Q=>∃i j,xs=[.int i,.int j]∧Q (.int (if j > i then j else i)) H) zQ:=by
 intro Z Θ env C σ H xs ds res S b e Q q
 unfold zQ at e
 split at e
 case h_2=>cases e
 cases e
 obtain ⟨v,w,rfl,b1,b2⟩:=Ie b
 cases b1.int; cases b2.int
 exact ⟨_,_,rfl,q _ H (bF.refl _ _) (aZ S rfl rfl)⟩
theorem Ra:wY K (fun xs H Q=>∃i j,xs=[.int i,.int j]∧Q (.int (if j < i then j else i)) H) zR:=by
 intro Z Θ env C σ H xs ds res S b e Q q
 unfold zR at e
 split at e
 case h_2=>cases e
 cases e
 obtain ⟨v,w,rfl,b1,b2⟩:=Ie b
 cases b1.int; cases b2.int
 exact ⟨_,_,rfl,q _ H (bF.refl _ _) (aZ S rfl rfl)⟩
noncomputable def boolsOf:List PyData→Option (List Bool)
 | []=>some []
 | .bool b::r=>match boolsOf r with
  | some t=>some (b::t)
  | none=>none
 | _=>none
theorem ym {E:Hp}:∀{ds:List PyData} {ns:List Bool} {vs:List V},boolsOf ds=some ns→d8 E ds vs→vs=ns.map V.bl
 | [],ns,vs,h,r=>by cases h; exact r
 | .bool i::ds,ns,vs,h,r=>by
  unfold boolsOf at h
  split at h
  ·rename_i t ht
   cases h
   obtain ⟨u,w,rfl,q,s⟩:=r
   rw [ym ht s]
   have:u=.bl i:=q
   rw [this]
   rfl
  ·cases h
 | .none::_,_,_,h,_=>by cases h
 | .int _::_,_,_,h,_=>by cases h
 | .str _::_,_,_,h,_=>by cases h
 | .list _::_,_,_,h,_=>by cases h
 | .tuple _::_,_,_,h,_=>by cases h
 | .dict _::_,_,_,h,_=>by cases h
noncomputable def yo:List PyData→Option Vl
 | [.list ds]=>(boolsOf ds).map fun bs=>.im (.bool (bs.all id))
 | _=>none
theorem N5:wY K (fun xs H Q=>∃(p:Addr) (bs:List Bool),xs=[.ref p]∧cO K H p (bs.map V.bl)∧Q (.bl (bs.all id)) H) yo:=by
 intro Z Θ env C σ H xs ds res S b e Q q
 unfold yo at e
 split at e
 case h_2=>cases e
 rename_i ds
 cases hb:boolsOf ds with
 | none=>rw [hb] at e; cases e
 | some bs=>
  rw [hb] at e
  cases e
  obtain ⟨v,rfl,bb⟩:=jl b
  obtain ⟨a,vs,rfl,ha,r⟩:=bb.lst
  rw [ym hb r] at ha
  exact ⟨a,bs,rfl,cO.of ha,q _ H (bF.refl _ _) (aZ S rfl rfl)⟩
noncomputable def rK:List PyData→Option Vl
 | [d]=>if J4 d&&d.showable&&decide (d.depth≤60)&&decide (d.shown.length≤LIM) then some (.im (.str d.shown)) else none
 | _=>none
theorem Ih:wY K (fun xs H Q=>∃v d,xs=[v]∧RD K H d v∧d.showable=true∧d.depth≤60∧d.shown.length≤sizeLine∧Q (.str d.shown) H) rK:=by
 intro Z Θ env C σ H xs ds res S b e Q q
 unfold rK at e
 split at e
 case h_2=>cases e
 rename_i d
 split at e
 case isFalse=>cases e
 rename_i h
 cases e
 rw [Bool.and_eq_true,Bool.and_eq_true,Bool.and_eq_true,decide_eq_true_iff,decide_eq_true_iff] at h
 obtain ⟨v,rfl,bb⟩:=jl b
 exact ⟨v,d,rfl,(bb.rx h.1.1.1).rd,h.1.1.2,h.1.2,dO h.2,q _ H (bF.refl _ _) (aZ S rfl rfl)⟩
noncomputable def gr:List PyData→Option Vl
 | [.list ds]=>some (.im (.tuple ds))
 | [.tuple ds]=>some (.im (.tuple ds))
 | _=>none
theorem jY:wY K (fun xs H Q=>∃p ys,xs=[.ref p]∧((cO K H p ys∧∀l,H l=none→Q (.ref l) (upd H l (.tup ys)))∨(eX K H p ys∧Q (.ref p) H))) gr:=by
 intro Z Θ env C σ H xs ds res S b e Q q
 unfold gr at e
 split at e
 case h_3=>cases e
 ·cases e
  obtain ⟨v,rfl,bb⟩:=jl b
  obtain ⟨a,vs,rfl,ha,r⟩:=bb.lst
  exact ⟨a,vs,rfl,.inl ⟨cO.of ha,fun l hl=>q _ _ (bF.upd hl) (ug S r hl)⟩⟩
 ·cases e
  obtain ⟨v,rfl,bb⟩:=jl b
  obtain ⟨a,vs,rfl,ha,r⟩:=bb.tup
  exact ⟨a,vs,rfl,.inr ⟨eX.of ha,q _ H (bF.refl _ _) ⟨S,bb⟩⟩⟩
end
noncomputable def Kc (n:String):PyData→Option Bool
 | .none=>some false
 | .bool _=>some (n=="bool" || n=="int")
 | .int _=>some (n=="int")
 | .str _=>some (n=="str")
 | .list _=>some (n=="list")
 | .tuple _=>some (n=="tuple")
 | .dict _=>none
noncomputable def N6 (n:String):Bool:=n=="bool" || n=="int" || n=="str" || n=="list" || n=="tuple"
theorem Fv {K:PySem.W.Frag} {n:String} {d:PyData} {b:Bool} (hn:N6 n=true) (e:Kc n d=some b):PySem.W.kitOne K (Xy d) (.type n)=some b:=by
 unfold N6 at hn
 simp only [Bool.or_eq_true,beq_iff_eq] at hn
 rcases hn with (((rfl | rfl) | rfl) | rfl) | rfl <;> cases d <;> cases e <;> rfl
theorem Cq {n:String} {d:PyData} {b:Bool} (e:Kc n d=some b):∀kvs,d≠.dict kvs:=fun kvs z=>by subst z; cases e
theorem d9.ty {K:PySem.W.Frag} {Z Θ:List Addr} {env:En} {σ:St} {H:Hp} {d:PyData} {v:V} (h:d9 Z Θ env σ H d v) (hd:∀kvs,d≠.dict kvs):mj K H v (Xy d):=by
 cases d with
 | none=>exact RX.ty (d:=.none) h
 | bool b=>exact RX.ty (d:=.bool b) h
 | int i=>exact RX.ty (d:=.int i) h
 | str z=>exact RX.ty (d:=.str z) h
 | list ds=>
  obtain ⟨a,vs,rfl,ha,r⟩:=h.lst
  exact .lst ha
 | tuple ds=>
  obtain ⟨a,vs,rfl,ha,r⟩:=h.tup
  exact .tup ha
 | dict kvs=>exact absurd rfl (hd kvs)
end L2
namespace L2
open PySem PySem.Spec PyProof.Rows PySem.W
noncomputable def rM (n:String) (f:FB):FE:=fun env C=>match f env C with
 | some (d,_,C1)=>match Kc n d with
  | some b=>some (.im (.bool b),env,C1)
  | none=>none
 | none=>none
noncomputable def Ii (m n:String) (f:FB):FE:=fun env C=>match f env C with
 | some (d,_,C1)=>match Kc m d,Kc n d with
  | some p,some q=>some (.im (.bool (p || q)),env,C1)
  | _,_=>none
 | none=>none
section
variable {X:Cx} {a t t':Expr} {p pos tp:Pos} {x1:Nat}
theorem jH {n:String} {f:FB} (hn:N6 n=true) (ha:PE X a (mL X.K f)) (ht:PE X t (tC (.ty n))) (hg:Gl X "isinstance") (hm:X.mg "isinstance"=none) (hv:bootBuiltins "isinstance"=some (.builtin "isinstance"))
  (he:starEach [a,t] X.env=(false,eval a X.env)::starEach [t] X.env:=by rfl) (he2:starEach [t] X.env=(false,eval t X.env)::starEach [] X.env:=by rfl) (hpl:(backTo pos (starEach [t] X.env)).any (·.1)=false:=by rfl):
  PE X (.Call (.Name "isinstance" p) [a,t] [] pos) (tE X.K (rM n f)):=
 (pQ Bd hg hm hv (dX ha (dX ht jA he2) he) (by decide) (by decide) he hpl).weak fun σ H Q aV=>by
  obtain ⟨Z,Θ,env,C,r,env',C',S,hf,q⟩:=aV
  unfold rM at hf
  split at hf
  case h_2=>cases hf
  rename_i d e1 C1 h1
  split at hf
  case h_2=>cases hf
  rename_i b hb
  cases hf
  refine ⟨Z,Θ,env,C,d,e1,C',S,h1,fun v H1 k f S1 b1=>⟨v,n,Xy d,b,rfl,b1.ty (Cq hb),Fv hn hb,q _ H1 k (Fz.refl _) ⟨S.go k S1.cell,rfl⟩⟩⟩
theorem Rb {m n:String} {f:FB} (hm':N6 m=true) (hn:N6 n=true) (ha:PE X a (mL X.K f)) (ht:PE X t (tC (.ty m))) (ht':PE X t' (tC (.ty n))) (hg:Gl X "isinstance") (hm:X.mg "isinstance"=none) (hv:bootBuiltins "isinstance"=some (.builtin "isinstance"))
  (he:starEach [a,.Tuple [t,t'] x1 tp] X.env=(false,eval a X.env)::starEach [.Tuple [t,t'] x1 tp] X.env:=by rfl) (he2:starEach [.Tuple [t,t'] x1 tp] X.env=(false,eval (.Tuple [t,t'] x1 tp) X.env)::starEach [] X.env:=by rfl)
  (h3:starEach [t,t'] X.env=(false,eval t X.env)::starEach [t'] X.env:=by rfl) (h4:starEach [t'] X.env=(false,eval t' X.env)::starEach [] X.env:=by rfl)
  (hpl:(backTo pos (starEach [.Tuple [t,t'] x1 tp] X.env)).any (·.1)=false:=by rfl):
  PE X (.Call (.Name "isinstance" p) [a,.Tuple [t,t'] x1 tp] [] pos) (tE X.K (Ii m n f)):=
 (pQ zp hg hm hv (dX ha (dX (DW (dX ht (dX ht' jA h4) h3)) jA he2) he) (by decide) (by decide) he hpl).weak fun σ H Q aV=>by
  obtain ⟨Z,Θ,env,C,r,env',C',S,hf,q⟩:=aV
  unfold Ii at hf
  split at hf
  case h_2=>cases hf
  rename_i d e1 C1 h1
  split at hf
  case h_2=>cases hf
  rename_i b b' hb hb'
  cases hf
  refine ⟨Z,Θ,env,C,d,e1,C',S,h1,fun v H1 k f S1 b1=>⟨by show 2≤sizeLine; rw [sizeLine_eq]; decide,fun c hc=>?_⟩⟩
  have kc:bF Θ H1 (upd H1 c (.tup [.ty m,.ty n])):=bF.upd hc
  have s2:=S1.uN (aU.upd (o:=.tup [.ty m,.ty n]) hc)
  have b2:=b1.go S1 kc (Fz.refl _)
  refine ⟨v,c,m,n,Xy d,b,b',rfl,aH,b2.ty (Cq hb),Fv hm' hb,Fv hn hb',q _ _ (k.trans kc) (Fz.refl _) ⟨S.go (k.trans kc) s2.cell,rfl⟩⟩
end
noncomputable def ins {α:Type} (lt:α→α→Bool) (x:α):List α→List α
 | []=>[x]
 | y::r=>if lt y x then y::ins lt x r else x::y::r
noncomputable def gK {α:Type} (lt:α→α→Bool):List α→List α
 | []=>[]
 | x::r=>ins lt x (gK lt r)
section
variable {α:Type} {lt:α→α→Bool}
theorem u5 (x:α):∀l:List α,(ins lt x l).Perm (x::l)
 | []=>List.Perm.refl _
 | y::r=>by
  unfold ins
  split
  ·exact ((u5 x r).cons y).trans (List.Perm.swap x y r)
  ·exact List.Perm.refl _
theorem fZ:∀l:List α,(gK lt l).Perm l
 | []=>List.Perm.refl _
 | x::r=>(u5 x _).trans ((fZ r).cons x)
structure yp (lt:α→α→Bool) (P:α→Prop):Prop where
 Xz:∀a b,P a→P b→lt a b=true→lt b a=false
 neg:∀a b c,P a→P b→P c→lt a c=true→lt a b=true∨lt b c=true
 tot:∀a b,P a→P b→lt a b=false→lt b a=false→a=b
theorem N7 {P:α→Prop} (O:yp lt P) {x:α} (hx:P x):∀{l:List α},(∀y∈l,P y)→l.Pairwise (fun a b=>lt b a=false)→(ins lt x l).Pairwise (fun a b=>lt b a=false)
 | [],_,_=>List.pairwise_cons.mpr ⟨fun _ m=>(nomatch m),List.Pairwise.nil⟩
 | y::r,hp,h=>by
  rw [List.pairwise_cons] at h
  have py:=hp y List.mem_cons_self
  unfold ins
  split
  ·rename_i hl
   rw [List.pairwise_cons]
   refine ⟨fun z m=>?_,N7 O hx (fun z m=>hp z (List.mem_cons_of_mem _ m)) h.2⟩
   rcases List.mem_cons.mp ((u5 x r).mem_iff.mp m) with rfl | m
   ·exact O.Xz _ _ py hx hl
   ·exact h.1 z m
  ·rename_i hl
   have hl:lt y x=false:=by simpa using hl
   rw [List.pairwise_cons,List.pairwise_cons]
   refine ⟨fun z m=>?_,h.1,h.2⟩
   rcases List.mem_cons.mp m with rfl | m
   ·exact hl
   ·have pz:=hp z (List.mem_cons_of_mem _ m)
    cases hz:lt z x with
    | false=>rfl
    | true=>
     rcases O.neg z y x pz py hx hz with h1 | h1
     ·rw [h.1 z m] at h1; cases h1
     ·rw [hl] at h1; cases h1
theorem Cr {P:α→Prop} (O:yp lt P):∀{l:List α},(∀y∈l,P y)→(gK lt l).Pairwise (fun a b=>lt b a=false)
 | [],_=>List.Pairwise.nil
 | x::r,hp=>N7 O (hp x List.mem_cons_self) (fun y m=>hp y (List.mem_cons_of_mem _ ((fZ r).mem_iff.mp m))) (Cr O fun y m=>hp y (List.mem_cons_of_mem _ m))
theorem N8 {P:α→Prop} (O:yp lt P):∀{l m:List α},(∀y∈l,P y)→l.Perm m→l.Pairwise (fun a b=>lt b a=false)→m.Pairwise (fun a b=>lt b a=false)→l=m
 | [],m,_,p,_,_=>(List.nil_perm.mp p).symm
 | x::r,[],_,p,_,_=>absurd p.length_eq (by simp)
 | x::r,y::t,hp,p,h1,h2=>by
  have pm:∀z∈y::t,P z:=fun z m=>hp z (p.mem_iff.mpr m)
  rw [List.pairwise_cons] at h1 h2
  have e:x=y:=by
   have m1:x∈y::t:=p.mem_iff.mp List.mem_cons_self
   have m2:y∈x::r:=p.mem_iff.mpr List.mem_cons_self
   rcases List.mem_cons.mp m1 with e | m1
   ·exact e
   ·rcases List.mem_cons.mp m2 with e | m2
    ·exact e.symm
    ·exact O.tot x y (hp x List.mem_cons_self) (pm y List.mem_cons_self) (h2.1 x m1) (h1.1 y m2)
  subst e
  rw [N8 O (fun z m=>hp z (List.mem_cons_of_mem _ m)) ((List.perm_cons x).mp p) h1.2 h2.2]
theorem Ij {P:α→Prop} (O:yp lt P) {l m:List α} (hp:∀y∈l,P y) (p:m.Perm l) (h:m.Pairwise (fun a b=>lt b a=false)):m=gK lt l:=
 N8 O (fun y hy=>hp y (p.mem_iff.mp hy)) (p.trans (fZ l).symm) h (Cr O hp)
end
noncomputable def ltI (i j:Int):Bool:=decide (i < j)
theorem aap:yp ltI (fun _=>True):=⟨fun a b _ _ h=>by unfold ltI at *; simp at *; omega,fun a b c _ _ _ h=>by unfold ltI at *; simp at *; omega,fun a b _ _ h1 h2=>by unfold ltI at *; simp at *; omega⟩
theorem Yd:yp strLt (fun _=>True):=by
 refine ⟨fun a b _ _ h=>?_,fun a b c _ _ _ h=>?_,fun a b _ _ h1 h2=>?_⟩
 ·exact QC (a:=.inr a) (b:=.inr b) h
 ·exact Vi (a:=.inr a) (b:=.inr b) (c:=.inr c) rfl rfl h
 ·exact Sum.inr.inj (Vj (a:=.inr a) (b:=.inr b) rfl h1 h2)
noncomputable def strsOf:List PyData→Option (List Str)
 | []=>some []
 | .str i::r=>match strsOf r with
  | some t=>some (i::t)
  | none=>none
 | _=>none
theorem qy {E:Hp}:∀{ds:List PyData} {ns:List Str} {vs:List V},strsOf ds=some ns→d8 E ds vs→vs=ns.map V.str
 | [],ns,vs,h,r=>by cases h; exact r
 | .str i::ds,ns,vs,h,r=>by
  unfold strsOf at h
  split at h
  ·rename_i t ht
   cases h
   obtain ⟨u,w,rfl,q,s⟩:=r
   rw [qy ht s]
   have:u=.str i:=q
   rw [this]
   rfl
  ·cases h
 | .none::_,_,_,h,_=>by cases h
 | .bool _::_,_,_,h,_=>by cases h
 | .int _::_,_,_,h,_=>by cases h
 | .list _::_,_,_,h,_=>by cases h
 | .tuple _::_,_,_,h,_=>by cases h
 | .dict _::_,_,_,h,_=>by cases h
noncomputable def rN:PyData→Option (List Bool)
 | .tuple xs=>(keysOf xs).map fun ks=>ks.map fV
 | _=>none
noncomputable def Cu:Key→PyData
 | .inl i=>.int i
 | .inr x=>.str x
noncomputable def Ik:PyData→List Key
 | .tuple xs=>(keysOf xs).getD []
 | _=>[]
noncomputable def rO (ds:List PyData):List PyData:=(wU (ds.map Ik)).map fun k=>.tuple (k.map Cu)
noncomputable def u9 (ds:List PyData):Option (List PyData):=if ds.length < 64 then match intsOf ds with
  | some ns=>some ((gK ltI ns).map .int)
  | none=>match strsOf ds with
   | some zs=>some ((gK strLt zs).map .str)
   | none=>match ds with
    | []=>some []
    | d::_=>match rN d with
     | some (b::sh)=>if (ds.all fun e=>decide (rN e=some (b::sh))) then some (rO ds) else none
     | _=>none
 else none
noncomputable def iZ:List PyData→Option Vl
 | [.list ds]=>(u9 ds).map fun l=>.ow (.list l)
 | _=>none
noncomputable def Fw (K:PySem.W.Frag):List V→Hp→VK→Prop:=fun xs H Q=>((∃(p:Addr) (ns:List Int),xs=[.ref p]∧cO K H p (ns.map V.int)∧ns.length < 64∧∀(l:Addr) (ns':List Int),H l=none→ns'.Perm ns→ns'.Pairwise (·≤·)→Q (.ref l) (upd H l (.lst (ns'.map V.int))))∨
 ∃(p:Addr) (ns:List Str),xs=[.ref p]∧cO K H p (ns.map V.str)∧ns.length < 64∧∀(l:Addr) (ns':List Str),H l=none→ns'.Perm ns→sortedS ns'=true→Q (.ref l) (upd H l (.lst (ns'.map V.str))))∨
 ∃(p:Addr) (rows:List Row) (b:Bool) (sh:List Bool),xs=[.ref p]∧cO K H p (rows.map fun r=>V.ref r.1)∧rows.length < 64∧(∀r∈rows,H r.1=some (.tup (r.2.map kV))∧r.2.map fV=b::sh)∧∀(l:Addr) (rows':List Row),H l=none→rows'.Perm rows→rows'.map (·.2)=wU (rows.map (·.2))→Q (.ref l) (upd H l (.lst (rows'.map fun r=>V.ref r.1)))
theorem FJ {X:Cx}:cD X (.builtin "sorted") (Fw X.K):=(qZ.or q9).or qb
theorem sortI {ns ns':List Int} (p:ns'.Perm ns) (h:ns'.Pairwise (·≤·)):ns'=gK ltI ns:=Ij aap (fun _ _=>trivial) p (h.imp fun {a b} hab=>by unfold ltI; simp; exact hab)
theorem Oa:∀{x:Str} {r:List Str},risingS x r=true→(x::r).Pairwise (fun a b=>strLt b a=false)
 | x,[],_=>List.pairwise_cons.mpr ⟨fun _ m=>(nomatch m),List.Pairwise.nil⟩
 | x,y::r,h=>by
  unfold risingS at h
  rw [Bool.and_eq_true,Bool.not_eq_true'] at h
  have ih:=Oa h.2
  have hxy:strLt y x=false:=by
   have:=h.1
   unfold strLt
   rw [lt_meets]
   exact this
  rw [List.pairwise_cons]
  refine ⟨fun z m=>?_,ih⟩
  rcases List.mem_cons.mp m with rfl | m
  ·exact hxy
  ·rw [List.pairwise_cons] at ih
   cases hz:strLt z x with
   | false=>rfl
   | true=>
    rcases Yd.neg z y x trivial trivial trivial hz with h1 | h1
    ·rw [ih.1 z m] at h1; cases h1
    ·rw [hxy] at h1; cases h1
theorem FP {ns ns':List Str} (p:ns'.Perm ns) (h:sortedS ns'=true):ns'=gK strLt ns:=Ij Yd (fun _ _=>trivial) p (by
 cases ns' with
 | nil=>exact List.Pairwise.nil
 | cons x r=>exact Oa h)
theorem qz:∀{xs:List PyData} {ks:List Key},keysOf xs=some ks→xs=ks.map Cu
 | [],ks,h=>by cases h; rfl
 | x::xs,ks,h=>by
  unfold keysOf at h
  split at h
  ·rename_i k t h1 h2
   cases h
   rw [qz h2]
   have:x=Cu k:=by
    cases x <;> first | (cases h1; rfl) | cases h1
   rw [this]
   rfl
  ·cases h
theorem vd:∀ks:List Key,keysOf (ks.map Cu)=some ks
 | []=>rfl
 | k::ks=>by
  show (match d7 (Cu k),keysOf (ks.map Cu) with | some k,some t=>some (k::t) | _,_=>none)=_
  rw [vd ks]
  cases k <;> rfl
theorem Kd {ds:List PyData} {rows rows':List Row} (e:ds=rows.map (fun r=>.tuple (r.2.map Cu))) (h:rows'.map (·.2)=wU (rows.map (·.2))):(rows'.map fun r=>PyData.tuple (r.2.map Cu))=rO ds:=by
 have e1:ds.map Ik=rows.map (·.2):=by
  rw [e,List.map_map]
  refine List.map_congr_left fun r _=>?_
  show (keysOf (r.2.map Cu)).getD []=r.2
  rw [vd]
  rfl
 unfold rO
 rw [e1,←h,List.map_map]
 rfl
theorem yq {ds:List PyData} (h:∀d∈ds,(rN d).isSome=true):(rO ds).Perm ds:=by
 have:=(JR (ds.map Ik)).map fun k=>PyData.tuple (k.map Cu)
 refine this.trans (List.Perm.of_eq ?_)
 rw [List.map_map]
 refine (List.map_congr_left fun d hd=>?_).trans (List.map_id ds)
 have hs:=h d hd
 cases d with
 | tuple xs=>
  show PyData.tuple (((keysOf xs).getD []).map Cu)=.tuple xs
  cases hk:keysOf xs with
  | none=>
   have hs:((keysOf xs).map fun ks=>ks.map fV).isSome=true:=hs
   rw [hk] at hs
   cases hs
  | some ks=>rw [qz hk]; rfl
 | _=>cases hs
theorem Cv {E:Hp} {sh:List Bool}:∀{ds:List PyData} {vs:List V},(∀d∈ds,rN d=some sh)→d8 E ds vs→∃rows:List Row,vs=rows.map (fun r=>V.ref r.1)∧ds=rows.map (fun r=>.tuple (r.2.map Cu))∧∀r∈rows,E r.1=some (.tup (r.2.map kV))∧r.2.map fV=sh
 | [],vs,_,r=>⟨[],r,rfl,fun _ m=>(nomatch m)⟩
 | d::ds,vs,h,r=>by
  obtain ⟨u,w,rfl,q,s⟩:=r
  obtain ⟨rows,e1,e2,e3⟩:=Cv (fun d m=>h d (List.mem_cons_of_mem _ m)) s
  have hd:=h d List.mem_cons_self
  cases d <;> first | cases hd | skip
  rename_i xs
  have hd:(keysOf xs).map (fun ks=>ks.map fV)=some sh:=hd
  cases hk:keysOf xs with
  | none=>rw [hk] at hd; cases hd
  | some ks=>
   rw [hk] at hd
   obtain ⟨a,vs',rfl,ha,rr⟩:=q
   rw [iM hk rr] at ha
   refine ⟨(a,ks)::rows,by rw [e1]; rfl,by rw [e2,qz hk]; rfl,fun r m=>?_⟩
   rcases List.mem_cons.mp m with rfl | m
   ·exact ⟨ha,Option.some.inj hd⟩
   ·exact e3 r m
theorem vf {E:Hp}:∀{rows:List Row},(∀r∈rows,E r.1=some (.tup (r.2.map kV)))→d8 E (rows.map fun r=>.tuple (r.2.map Cu)) (rows.map fun r=>V.ref r.1)
 | [],_=>rfl
 | r::rows,h=>by
  refine ⟨_,_,rfl,⟨r.1,r.2.map kV,rfl,h r List.mem_cons_self,?_⟩,vf fun r m=>h r (List.mem_cons_of_mem _ m)⟩
  generalize r.2=ks
  induction ks with
  | nil=>rfl
  | cons k ks ih=>exact ⟨_,_,rfl,by cases k <;> rfl,ih⟩
theorem Cw:∀{ds:List PyData} {ns:List Int},intsOf ds=some ns→ds=ns.map .int
 | [],ns,h=>by cases h; rfl
 | .int i::ds,ns,h=>by
  unfold intsOf at h
  split at h
  ·rename_i t ht; cases h; rw [Cw ht]; rfl
  ·cases h
 | .none::_,_,h=>by cases h
 | .bool _::_,_,h=>by cases h
 | .str _::_,_,h=>by cases h
 | .list _::_,_,h=>by cases h
 | .tuple _::_,_,h=>by cases h
 | .dict _::_,_,h=>by cases h
theorem qC:∀{ds:List PyData} {ns:List Str},strsOf ds=some ns→ds=ns.map .str
 | [],ns,h=>by cases h; rfl
 | .str i::ds,ns,h=>by
  unfold strsOf at h
  split at h
  ·rename_i t ht; cases h; rw [qC ht]; rfl
  ·cases h
 | .none::_,_,h=>by cases h
 | .bool _::_,_,h=>by cases h
 | .int _::_,_,h=>by cases h
 | .list _::_,_,h=>by cases h
 | .tuple _::_,_,h=>by cases h
 | .dict _::_,_,h=>by cases h
theorem Ke {K:PySem.W.Frag}:wY K (Fw K) iZ:=by
 intro Z Θ env C σ H xs ds0 res S b e Q q
 unfold iZ at e
 split at e
 case h_2=>cases e
 rename_i ds
 cases hs:u9 ds with
 | none=>rw [hs] at e; cases e
 | some l=>
  rw [hs] at e
  cases e
  obtain ⟨v,rfl,bb⟩:=jl b
  obtain ⟨a,vs,rfl,ha,r⟩:=bb.lst
  unfold u9 at hs
  split at hs
  case isFalse=>cases hs
  rename_i hl
  split at hs
  ·rename_i ns hns
   cases hs
   have ev:=jW hns r
   subst ev
   refine .inl (.inl ⟨a,ns,rfl,cO.of ha,by rw [Cw hns,List.length_map] at hl; exact hl,fun l ns' hn p hp=>?_⟩)
   rw [sortI p hp]
   exact q _ _ (bF.upd hn) (dY S (MT _) hn)
  ·split at hs
   ·rename_i ns hns
    cases hs
    have ev:=qy hns r
    subst ev
    refine .inl (.inr ⟨a,ns,rfl,cO.of ha,by rw [qC hns,List.length_map] at hl; exact hl,fun l ns' hn p hp=>?_⟩)
    rw [FP p hp]
    exact q _ _ (bF.upd hn) (dY S (qg _) hn)
   ·split at hs
    ·cases hs
     cases (show vs=[] from r)
     exact .inl (.inl ⟨a,[],rfl,cO.of ha,by decide,fun l ns' hn p hp=>by
      rw [List.perm_nil.mp p]
      exact q _ _ (bF.upd hn) (dY S rfl hn)⟩)
    ·rename_i d0 dr hi1 hi2
     split at hs
     case h_2=>cases hs
     rename_i b0 sh hsh
     split at hs
     case isFalse=>cases hs
     rename_i hall
     cases hs
     have hall':∀d∈d0::dr,rN d=some (b0::sh):=fun d m=>of_decide_eq_true (List.all_eq_true.mp hall d m)
     obtain ⟨rows,e1,e2,e3⟩:=Cv hall' r
     subst e1
     refine .inr ⟨a,rows,b0,sh,rfl,cO.of ha,?_,fun r m=>⟨bD (e3 r m).1,(e3 r m).2⟩,fun l rows' hn p hp=>?_⟩
     ·have:=congrArg List.length e2
      rw [List.length_map] at this
      rw [←this]
      exact hl
     ·have es:(rows'.map fun r=>PyData.tuple (r.2.map Cu))=rO (d0::dr):=Kd e2 hp
      rw [←es] at q
      exact q _ _ (bF.upd hn) (dY S (vf fun r m=>(e3 r (p.mem_iff.mp m)).1) hn)
noncomputable def gM (ds:List PyData):Option (List PyData):=if ds.length < 64 then match strsOf ds with
  | some ns=>some ((gK strLt (dedup ns)).map .str)
  | none=>none
 else none
noncomputable def Il (f:FB):FE:=fun env C=>match f env C with
 | some (.list ds,_,C1)=>match gM ds with
  | some l=>some (.ow (.list l),env,C1)
  | none=>none
 | _=>none
section
variable {X:Cx} {l:Expr} {f:FB} {p1 p2 pos1 pos2:Pos}
theorem Rc (hc:X.calm=true) (hl:PE X l (mL X.K f)) (g1:Gl X "sorted") (m1:X.mg "sorted"=none) (g2:Gl X "set") (m2:X.mg "set"=none)
  (he:starEach [.Call (.Name "set" p2) [l] [] pos2] X.env=(false,eval (.Call (.Name "set" p2) [l] [] pos2) X.env)::starEach [] X.env:=by rfl) (hpl:(backTo pos1 (starEach [] X.env)).any (·.1)=false:=by rfl)
  (he2:starEach [l] X.env=(false,eval l X.env)::starEach [] X.env:=by rfl) (Vo:(backTo pos2 (starEach [] X.env)).any (·.1)=false:=by rfl):
  PE X (.Call (.Name "sorted" p1) [.Call (.Name "set" p2) [l] [] pos2] [] pos1) (tE X.K (Il f)):=(Bu hc hl g1 m1 g2 m2 he hpl he2 Vo).weak fun σ H Q aV=>by
 obtain ⟨Z,Θ,env,C,r,env',C',S,hf,q⟩:=aV
 unfold Il at hf
 split at hf
 case h_2=>cases hf
 rename_i ds e1 C1 h1
 split at hf
 case h_2=>cases hf
 rename_i l' hs
 cases hf
 refine ⟨Z,Θ,env,C,_,e1,C',S,h1,fun v H1 k f S1 b1=>?_⟩
 unfold gM at hs
 split at hs
 case isFalse=>cases hs
 rename_i hl
 split at hs
 case h_2=>cases hs
 rename_i ns hns
 cases hs
 obtain ⟨a,vs,rfl,ha,r⟩:=b1.lst
 have ev:=qy hns r
 subst ev
 have S2:=S.go k S1.cell
 refine ⟨a,ns,rfl,cO.of ha,by rw [qC hns,List.length_map] at hl; exact hl,fun D ns' hn p hp=>?_⟩
 rw [FP p hp]
 exact q _ _ (k.trans (bF.upd hn)) (Fz.refl _) ((dY S2 (qg _) hn).from k)
end
noncomputable def Im (f g:FB):FE:=fun env C=>match f env C with
 | some (.list ds,e1,C1)=>match g e1 C1 with
  | some (.int k,_,C2)=>match intsOf ds with
   | some ns=>some (.im (.int (maxD k ns)),env,C2)
   | none=>none
  | _=>none
 | _=>none
theorem Rf {X:Cx} {l de:Expr} {f g:FB} {p pos kp:Pos} (hc:X.calm=true) (hl:PE X l (mL X.K f)) (hd:PE X de (mL X.K g)) (hg:Gl X "max") (hm:X.mg "max"=none) (he:starEach [l] X.env=(false,eval l X.env)::starEach [] X.env:=by rfl):
  PE X (.Call (.Name "max" p) [l] [⟨some "default",de,kp⟩] pos) (tE X.K (Im f g)):=(QJ hc hl hd hg hm he).weak fun σ H Q aV=>by
 obtain ⟨Z,Θ,env,C,r,env',C',S,hf,q⟩:=aV
 unfold Im at hf
 split at hf
 case h_2=>cases hf
 rename_i ds e1 C1 h1
 split at hf
 case h_2=>cases hf
 rename_i k e2 C2 h2
 split at hf
 case h_2=>cases hf
 rename_i ns hns
 cases hf
 refine ⟨Z,Θ,env,C,_,e1,C1,S,h1,fun v H1 k1 f1 S1 b1=>⟨Z,Θ,e1,C1,_,e2,C',S1,h2,fun w H2 k2 f2 S2 b2=>?_⟩⟩
 obtain ⟨a,vs,rfl,ha,r⟩:=(b1.go S1 k2 f2).lst
 rw [jW hns r] at ha
 exact ⟨a,ns,k,rfl,b2,cO.of ha,q _ H2 (k1.trans k2) (Fz.refl _) ⟨S.go (k1.trans k2) S2.cell,rfl⟩⟩
end L2
namespace L2
open PySem PySem.Spec PyProof.Rows PySem.W
noncomputable def zT:PyData→PyData→Option Vl
 | .str z,.list ds=>match strsOf ds with
  | some ys=>if (ys.map (·.length)).sum + ys.length * z.length≤LIM then some (.im (.str (Txt.join z ys))) else none
  | none=>none
 | _,_=>none
noncomputable def Io (f g:FB):FE:=aG zT f g
theorem Rg {X:Cx} {o e:Expr} {f g:FB} {apos cpos:Pos} (ho:PE X o (mL X.K f)) (he:PE X e (mL X.K g))
  (hbase:attributeBase o "join" X.env (eval o X.env)=eval o X.env:=by rfl)
  (hfew:((backTo cpos (starEach [e] X.env)).all (fun x=>!x.1)&&(backToKw cpos (keywordEach [] X.env)).all (fun x=>x.1.isSome)
   &&decide (([e]:List Expr).length + ([]:List Keyword).length + (if ([]:List Keyword).isEmpty then 0 else 1) < 30))=true:=by rfl)
  (hline:(apos.endLine==cpos.line)=true:=by rfl) (hs:starEach [e] X.env=(false,eval e X.env)::starEach [] X.env:=by rfl) (hplain:(backTo cpos (starEach [] X.env)).any (·.1)=false:=by rfl):
  PE X (.Call (.Attribute o "join" apos) [e] [] cpos) (tE X.K (Io f g)):=
 (SJ PySem.F.plainAttrs_str PySem.F.slot_str_join PySem.F.type_str_join (Wr.r Qv) ho (dX he jA hs) hbase hfew hline hs hplain).weak fun σ H Q aV=>by
  obtain ⟨Z,Θ,env,C,r,env',C',S,hf,q⟩:=aV
  unfold Io aG at hf
  split at hf
  case h_2=>cases hf
  rename_i x e1 C1 h1
  split at hf
  case h_2=>cases hf
  rename_i y e2 C2 h2
  split at hf
  case h_2=>cases hf
  rename_i r0 h3
  cases hf
  refine ⟨Z,Θ,env,C,x,e1,C1,S,h1,fun v H1 k1 f1 S1 b1=>?_⟩
  unfold zT at h3
  split at h3
  case h_2=>cases h3
  rename_i z ds
  split at h3
  case h_2=>cases h3
  rename_i ys hys
  split at h3
  case isFalse=>cases h3
  rename_i hl
  cases h3
  cases b1.str
  refine ⟨rfl,Z,Θ,e1,C1,_,e2,C',S1,h2,fun w H2 k2 f2 S2 b2=>?_⟩
  obtain ⟨a,vs,rfl,ha,rr⟩:=b2.lst
  rw [qy hys rr] at ha
  have kk:=k1.trans k2
  refine ⟨z,a,ys,rfl,rfl,cO.of ha,by unfold LIM at hl; omega,?_⟩
  exact q _ H2 kk ((f1.trans f2).rst _) (Res.rst S kk ⟨S2,rfl⟩)
noncomputable abbrev FO:=En→Ce→Option (Option Int×Ce)
noncomputable def Y8 (K:PySem.W.Frag) (f:FO):TO:=fun σ H Q=>∃Z Θ env C o C',Sm K Z Θ env C σ H∧f env C=some (o,C')∧∀H',bF Θ H H'→Sm K Z Θ env C' σ H'→Q o H'
noncomputable def Rh:FO:=fun _ C=>some (none,C)
noncomputable def Pz (f:FB):FO:=fun env C=>match f env C with
 | some (.int i,_,C1)=>some (some i,C1)
 | _=>none
noncomputable def Cy {α:Type} (xs:List α) (lo hi:Option Int):List α:=(xs.drop (HT.eU xs.length 0 lo)).take (HT.eU xs.length xs.length hi - HT.eU xs.length 0 lo)
noncomputable def Ye (lo hi:Option Int):PyData→Option Vl
 | .str z=>if z.length≤LIM then some (.im (.str (Txt.slice z lo hi))) else none
 | .list ds=>some (.ow (.list (Cy ds lo hi)))
 | .tuple ds=>some (.im (.tuple (Cy ds lo hi)))
 | _=>none
noncomputable def PJ (f:FB) (lo hi:FO):FE:=fun env C=>match f env C with
 | some (d,e1,C1)=>match lo e1 C1 with
  | some (l,C2)=>match hi e1 C2 with
   | some (h,C3)=>match Ye l h d with
    | some r=>some (r,rst r env e1,C3)
    | none=>none
   | none=>none
  | none=>none
 | none=>none
theorem zU {E:Hp} {ds:List PyData} {vs:List V} {lo hi:Option Int} (r:d8 E ds vs):d8 E (Cy ds lo hi) (uA vs lo hi):=by
 unfold Cy uA
 rw [bL r]
 exact Bw _ (By _ r)
section
variable {X:Cx} {e:Expr} {lo hi:Option Expr} {pos p2:Pos}
theorem PO.weak {o:Option Expr} {t t':TO} (h:PO X o t) (w:∀σ H Q,t' σ H Q→t σ H Q):PO X o t':=fun pins s σ H Q I q=>h pins s σ H Q I (w σ H Q q)
theorem Ip:PO X none (Y8 X.K Rh):=Qj.weak fun σ H Q aV=>by
 obtain ⟨Z,Θ,env,C,o,C',S,hf,q⟩:=aV
 cases hf
 exact q H (bF.refl _ _) S
theorem Ir {f:FB} (h:PE X e (mL X.K f)):PO X (some e) (Y8 X.K (Pz f)):=(Qk h).weak fun σ H Q aV=>by
 obtain ⟨Z,Θ,env,C,o,C',S,hf,q⟩:=aV
 unfold Pz at hf
 split at hf
 ·rename_i i e1 C1 h1
  cases hf
  exact ⟨Z,Θ,env,C,_,e1,C',S,h1,fun v H1 k f S1 b1=>⟨i,b1,q H1 k (S.go k S1.cell)⟩⟩
 ·cases hf
theorem Iu {f:FB} {flo fhi:FO} (he:PE X e (mL X.K f)) (hl:PO X lo (Y8 X.K flo)) (hh:PO X hi (Y8 X.K fhi)):PE X (.Subscript e (.Slice lo hi none p2) pos) (tE X.K (PJ f flo fhi)):=(Ls ((Vd.or Qn).or QD) he hl hh).weak fun σ H Q aV=>by
 obtain ⟨Z,Θ,env,C,r,env',C',S,hf,q⟩:=aV
 unfold PJ at hf
 split at hf
 case h_2=>cases hf
 rename_i d e1 C1 h1
 split at hf
 case h_2=>cases hf
 rename_i l C2 h2
 split at hf
 case h_2=>cases hf
 rename_i h C3 h3
 split at hf
 case h_2=>cases hf
 rename_i r0 h4
 cases hf
 refine ⟨Z,Θ,env,C,d,e1,C1,S,h1,fun v H1 k1 f1 S1 b1=>⟨Z,Θ,e1,C1,l,C2,S1,h2,fun H2 k2 S2=>⟨Z,Θ,e1,C2,h,C',S2,h3,fun H3 k3 S3=>?_⟩⟩⟩
 have kk:=(k1.trans k2).trans k3
 have b3:=b1.go S1 (k2.trans k3) (Fz.refl _)
 have fin:∀{w:V} {H4:Hp},bF Θ H3 H4→Res X.K Z Θ e1 C' σ H3 H4 r w→Q w H4:=fun {w H4} k4 R=>q w H4 (kk.trans k4) (f1.rst _) ((R.from kk).rst S (kk.trans k4))
 cases d <;> first | cases h4 | skip
 ·rename_i z
  simp only [Ye] at h4
  split at h4
  ·rename_i hz
   cases h4
   cases b3.str
   exact .inl (.inl ⟨z,rfl,dO hz,fin (bF.refl _ _) (aZ S3 rfl rfl)⟩)
  ·cases h4
 ·obtain ⟨a,vs,rfl,ha,rr⟩:=b3.lst
  exact .inl (.inr ⟨a,vs,rfl,cO.of ha,fun p hp=>fin (bF.upd hp) (dY S3 (zU rr) hp)⟩)
 ·rename_i ds
  have b3':=b3
  obtain ⟨a,vs,rfl,ha,rr⟩:=b3.tup
  refine .inr ⟨a,vs,rfl,eX.of ha,fun ec=>?_,fun p hp=>fin (bF.upd hp) (ug S3 (zU rr) hp)⟩
  have rc:=zU (lo:=l) (hi:=h) rr
  rw [ec] at rc
  refine fin (bF.refl _ _) ⟨S3,a,vs,rfl,uT S3 ha,rc⟩
end
noncomputable def tH (T:n6) (ft:FT) (fk fv:FE) (fs:En):List PyData→List (PyData×PyData)→Ce→Option (List (PyData×PyData)×Ce)
 | [],acc,C=>some (acc,C)
 | d::r,acc,C=>match TF T d with
  | some ts=>match ft (jj ts++fs) C with
   | some (false,C1)=>tH T ft fk fv fs r acc C1
   | some (true,C1)=>match fk (jj ts++fs) C1 with
    | some (.im k,_,C2)=>match fv (jj ts++fs) C2 with
     | some (x,_,C3)=>match still x,d7 k with
      | .im y,some kk=>if acc.length < LIM then tH T ft fk fv fs r (lV d7 kk k y acc) C3 else none
      | _,_=>none
     | none=>none
    | _=>none
   | none=>none
  | none=>none
noncomputable def FQ:List (PyData×PyData)→Bool
 | []=>true
 | p::r=>wW p.2&&FQ r
noncomputable def Yg (fi:FI) (T:n6) (ft:FT) (fk fv:FE) (js:List Nat):FE:=fun env C=>match fi env C with
 | some (its,e1,C1)=>match tH T ft fk fv (frB js e1) its [] C1 with
  | some (kvs,C2)=>some (.ow (.dict kvs),if FQ kvs then e1 else nQ js e1,C2)
  | none=>none
 | none=>none
theorem pN.wW {H H':Hp} (t:∀a vs,H a=some (.tup vs)→H' a=some (.tup vs)):∀{ds:List (PyData×PyData)} {vs:List V},FQ ds=true→pN H ds vs→pN H' ds vs
 | [],_,_,h=>h
 | (k,d)::ds,vs,n,h=>by
  obtain ⟨v,r,e,q,w⟩:=h
  have n':L2.wW d=true∧FQ ds=true:=by rw [FQ,Bool.and_eq_true] at n; exact n
  exact ⟨v,r,e,RZ.wW t n'.1 q,pN.wW t n'.2 w⟩
theorem Ri {K:PySem.W.Frag} {fi:FI} {T:n6} {ft:FT} {fk fv:FE} {js:List Nat}:∀σ H Q,tE K (Yg fi T ft fk fv js) σ H Q→tDC K (tI K true fi) T (fun _=>lX K ft) (fun _=>tE K fk) (fun _=>tE K fv) js σ H Q:=by
 rintro σ H Q ⟨Z,Θ,env,C,res,env',C',S,hf,q⟩
 unfold Yg at hf
 split at hf
 case h_2=>cases hf
 rename_i its e1 C1 h1
 split at hf
 case h_2=>cases hf
 rename_i kvs C2 h2
 cases hf
 refine ⟨Z,Θ,env,C,its,e1,C1,S,h1,fun J H1 k1 f1 S1 it D hD b=>?_⟩
 have Py:=S1.fz (mQ js e1)
 have it':wZ (aK Z Θ e1 σ) Θ H1 J its:=it
 let PB:=aK (kj D Z (nQ js e1) σ) Θ [] []
 have Ck:∀a,a∈PB ↔ a=D∨a∈aK Z Θ (nQ js e1) σ:=fun a=>eV (js:=js) rfl
 have dPB:D∈PB:=(Ck D).mpr (.inl rfl)
 refine ⟨fun i m H2=>m=its.length - i∧i≤its.length∧∃acc ks fX C2,bF Θ H1 H2∧eY Θ C2 H2∧cF d7 acc=some ks∧H2 D=some (.dK (ks.zip fX))∧pN (er PB H2) acc fX∧tH T ft fk fv (frB js e1) (its.drop i) acc C2=some (kvs,C'),
  ⟨its.length,rfl,Nat.zero_le _,[],[],[],C1,bF.upd hD,⟨S1.cell.len,fun n b ns e2 e3=>?_⟩,rfl,aH,rfl,h2⟩,?_⟩
 ·have:=S1.cell.at_ n b ns e2 e3
  rw [aJ (bB this hD)]
  exact this
 rintro i m H2 ⟨rfl,hi,acc,ks,fX,Ci,ki,ci,hks,hDi,ri,hc⟩
 have X7:aU (er (aK Z Θ e1 σ) H1) (er PB H2):=fD ki S1.Hu fun b m=>by
  rcases (Ck b).mp m with rfl | m
  ·exact .inr hD
  ·exact .inl ((mQ js e1).sub b m)
 have X8:Sm K (kj D Z (nQ js e1) σ) Θ (jj []++frB js e1) Ci (([]:List V).map some++frees js σ) H2:=Py.blk hD ki ⟨_,hDi,fun _ z=>nomatch z⟩ ci (show d8 _ [] [] from rfl)
 have NK:∀a∈PB,H2 a≠none:=fun a m=>by
  have:=X8.zy a ((eV (js:=js) (kh (env:=jj []++frB js e1) pA)).mpr ((Ck a).mp m))
  exact this
 obtain ⟨VJ,VL⟩:=it' i H2 PB X7 (zA ki) NK
 cases hd:its[i]? with
 | none=>
  have hi2:i=its.length:=by
   have:=List.getElem?_eq_none_iff.mp hd
   omega
  rw [hi2,List.drop_length] at hc
  cases hc
  refine .inl ⟨VL hi2,q _ H2 (k1.trans ki) ?_ ?_⟩
  ·split
   ·exact f1
   ·exact f1.trans (mQ js e1)
  ·refine ⟨D,rfl,k1.none hD,?_⟩
   split
   ·rename_i hn
    have SD:=S1.BW hD ki ⟨_,hDi,fun _ z=>nomatch z⟩ ci
    exact ⟨SD,fX,.inl ⟨ks,hks,hDi⟩,ri.wW (fun a vs e=>uT SD (bD e)) hn⟩
   ·have SD:=Py.BW hD ki ⟨_,hDi,fun _ z=>nomatch z⟩ ci
    refine ⟨SD,fX,.inl ⟨ks,hks,hDi⟩,?_⟩
    have:er PB H2=er (aK (D::Z) Θ (nQ js e1) σ) H2:=gZ fun a=>by
     rw [Ck]
     show _ ↔ a∈D::aK Z Θ (nQ js e1) σ
     rw [List.mem_cons]
    rw [←this]
    exact ri
 | some d=>
  have hlt:i < its.length:=(List.getElem?_eq_some_iff.mp hd).1
  have ed:its.drop i=d::its.drop (i + 1):=by
   rw [List.drop_eq_getElem_cons hlt]
   obtain ⟨_,e⟩:=List.getElem?_eq_some_iff.mp hd
   rw [e]
  rw [ed] at hc
  unfold tH at hc
  obtain ⟨go,yl⟩:=VJ d hd
  refine .inr ⟨go,fun x H3 y=>?_⟩
  obtain ⟨s3,r3⟩:=yl x H3 y
  split at hc
  case h_2=>cases hc
  rename_i ts ht
  obtain ⟨vs,tv,rvs⟩:=NB (K:=K) ht r3 (tB _ _)
  refine ⟨vs,tv,?_⟩
  have k3:bF Θ H1 H3:=ki.trans (bF.of s3)
  have Ka:H3 D=some (.dK (ks.zip fX)):=s3 _ _ hDi
  have c3:eY Θ Ci H3:=⟨ci.len,fun n b ns e2 e3=>s3 _ _ (ci.at_ n b ns e2 e3)⟩
  have r3':pN (er PB H3) acc fX:=ri.same (nH s3)
  have SB:Sm K (kj D Z (nQ js e1) σ) Θ (jj ts++frB js e1) Ci (vs.map some++frees js σ) H3:=Py.blk hD k3 ⟨_,Ka,fun _ z=>nomatch z⟩ c3 rvs
  have xg:D∉Θ:=fun m=>(S1.cell.dom D m).ne hD
  have stay:∀{Hx Hy:Hp},bF Θ Hx Hy→Hx D=some (.dK (ks.zip fX))→pN (er PB Hx) acc fX→Hy D=some (.dK (ks.zip fX))∧pN (er PB Hy) acc fX:=fun {Hx Hy} kk h1 h2=>
   ⟨kk.keep _ _ h1 xg,h2.same (fD kk (fun a m=>(Ck a).mpr (.inr (bJ.mpr (.inr (.inl m))))) fun a m=>.inl m)⟩
  have ePB:∀{eB:En} (Hx:Hp),Fz (jj ts++frB js e1) eB→er (aK (kj D Z (nQ js e1) σ) Θ eB (vs.map some++frees js σ)) Hx=er PB Hx:=fun {eB} Hx fz=>gZ fun a=>by
   have noB:aX eB (vs.map some++frees js σ)=[]:=by
    have:=(Fz.own (σ:=vs.map some++frees js σ) fz)
    rw [kh pA] at this
    exact List.sublist_nil.mp this
   rw [eV (js:=js) noB,Ck]
  split at hc
  ·rename_i Ct NP
   refine ⟨_,Θ,_,Ci,false,Ct,SB,NP,fun H4 k4 S4=>wN ⟨its.length - (i + 1),by omega,rfl,hlt,acc,ks,fX,Ct,k3.trans k4,S4.cell,hks,(stay k4 Ka r3').1,(stay k4 Ka r3').2,hc⟩⟩
  ·rename_i Ct NP
   split at hc
   case h_2=>cases hc
   rename_i kd eK CK hfk
   split at hc
   case h_2=>cases hc
   rename_i xr eB CB hfv
   split at hc
   case h_2=>cases hc
   rename_i yd kk Yb hkd
   split at hc
   case isFalse=>cases hc
   rename_i hlm
   refine ⟨_,Θ,_,Ci,true,Ct,SB,NP,fun H4 k4 S4=>wO ⟨_,Θ,_,Ct,_,eK,CK,S4,hfk,fun y H5 k5 f5 R5=>?_⟩⟩
   have S5:=S4.go k5 R5.1.cell
   refine ⟨_,Θ,_,CK,xr,eB,CB,S5,hfv,fun z H6 k6 f6 R6=>?_⟩
   obtain ⟨S6,r6⟩:=R6.qw Yb
   obtain ⟨hD4,r4⟩:=stay k4 Ka r3'
   obtain ⟨Yc,Y7⟩:=stay k5 hD4 r4
   obtain ⟨hD6,r6'⟩:=stay k6 Yc Y7
   rw [ePB H6 f6] at r6
   have yk:y=kV kk:=Vt hkd R5.2
   obtain ⟨ks',vs',g3,g4,g5⟩:=uh hkd r6 hks r6'
   refine ⟨ks.zip fX,kk,hD6,yk,?_,its.length - (i + 1),by omega,rfl,hlt,lV d7 kk kd yd acc,ks',vs',CB,?_,?_,g3,by rw [g5]; exact aH,?_,hc⟩
   ·rw [List.length_zip,sizeLine_eq,iU hks]
    unfold LIM at hlm
    omega
   ·have kk':=((k3.trans k4).trans k5).trans k6
    refine ⟨fun a o ha na=>?_,fun a ha=>?_⟩
    ·rw [aJ (bB ha hD)]
     exact kk'.keep _ _ ha na
    ·by_cases z:a=D
     ·subst z; rw [aH]; exact Option.some_ne_none _
     ·rw [aJ z]; exact kk'.dom a ha
   ·refine ⟨S6.cell.len,fun n b ns e2 e3=>?_⟩
    rw [aJ]
    ·exact S6.cell.at_ n b ns e2 e3
    ·intro z
     subst z
     exact xg (List.mem_of_getElem? e2)
   ·rw [Fo dPB]
    exact g4
  ·cases hc
section
variable {X:Cx} {NT NF:List Str} {js:List Nat} {kx vx tg iter:Expr} {ifs:List Expr} {T:n6} {fi:FI} {ft:FT} {fk fv:FE} {scope:Scope} {pos:Pos}
theorem Ob {i:Nat} {y:Str} {pos' spos:Pos} (B:jU X NT NF js scope) (tk:p6 tg NT T) (hc:X.calm=true) (hu:X.A.units + 1 < cLine) (hi:PI X tg iter (tI X.K true fi))
  (hin:∀b,Du (X.bk (NT++NF) scope b) ifs (lX X.K ft)∧PE (X.bk (NT++NF) scope b) kx (tE X.K fk)∧PE (X.bk (NT++NF) scope b) vx (tE X.K fv))
  (hsw:swapsWith (.DictComp kx vx [⟨tg,iter,ifs,0⟩] scope pos) (some (.Name y pos')) spos.line X.env=pure true) (hN:X.N.Nodup) (hI:X.N[i]?=some y) (hy:X.env.scope.names.lookup y=some .local)
  (hs:∀x,foldedSetIterable iter X.env x=pure x:=by intro _; rfl):PS X (.Assign [.Name y pos'] (.DictComp kx vx [⟨tg,iter,ifs,0⟩] scope pos) spos) (tS X.K (fSet i (Yg fi T ft fk fv js))):=(Ml B tk hc hu hi hin hsw hN hI hy hs).weak (uY Ri)
end
end L2
namespace L2
open PySem PySem.Spec PyProof.Rows PySem.W
section
variable {X:Cx}
theorem FW (hc:X.calm=true):cD X (.builtin "max") (fun xs H Q=>∃(p:Addr) (ns:List Int),xs=[.ref p]∧cO X.K H p (ns.map V.int)∧ns≠[]∧Q (.int (maxD 0 ns)) H):=by
 intro pins s σ H xs us Q I r h
 obtain ⟨p,ns,rfl,hq,hne,q⟩:=h
 obtain ⟨u,rfl,rx⟩:=vals1 r
 cases rx
 obtain ⟨its,r',pl,hz⟩:=I.list hq
 have hi:IntsAre its ns:=intsAre_of r'
 have ln:its.length=ns.length:=hi.length
 have pos:0 < ns.length:=List.length_pos_iff.mpr hne
 have hl:=pl.isList
 have Tg:p < s.heap.objs.size:=by obtain ⟨o,ho,_⟩:=hl; exact Heap.lt_size ho
 have val:∀(i:Nat) (v:Value),its.toArray[i]?=some v→∃t,v=Value.int (ns.getD i 0) t:=fun i v hv=>IntsAre.int_at hi i v (by simpa using hv)
 have hh:=I.ok.hd hc
 refine call_max_walk (wpAny_pyIter_list hl ?_)
 refine ⟨_,_,_,_,_,_,_,rfl,Walks.list (prog:=X.prog) (w:=X.w) (A:=X.A.in1) (by simp [hh]) s.heap.objs.size p (Nat.ne_of_lt Tg) its.toArray,⟨⟨_,Heap.get?_push_size _ rfl,rfl,rfl⟩,hl.push _⟩,fun b hb=>?_,by rw [List.size_toArray,ln]; exact pos,CmpOf.ints_gt (fun i=>ns.getD i 0) val,fun v h' tk hP hk=>?_⟩
 ·rw [Heap.size_push]
  simp only [List.mem_cons,List.not_mem_nil,or_false] at hb
  rcases hb with rfl | rfl
  ·exact Nat.lt_succ_self _
  ·exact Nat.lt_succ_of_lt Tg
 ·rw [List.size_toArray,ln] at hP
  obtain ⟨t,e⟩:=val _ v hP
  rw [Hs ns pos 0] at e
  subst e
  refine ⟨.int _,H,I.kept (t':=tk) fun b o e=>hk b o ?_ (Heap.get?_push_of_some _ e),⟨_,rfl⟩,q⟩
  simp only [List.mem_cons,List.not_mem_nil,or_false]
  exact Nat.ne_of_lt (Heap.lt_size e)
noncomputable def rP:List PyData→Option Vl
 | [.list ds]=>match intsOf ds with
  | some (n::ns)=>some (.im (.int (maxD 0 (n::ns))))
  | _=>none
 | _=>none
theorem Rj {K:PySem.W.Frag}:wY K (fun xs H Q=>∃(p:Addr) (ns:List Int),xs=[.ref p]∧cO K H p (ns.map V.int)∧ns≠[]∧Q (.int (maxD 0 ns)) H) rP:=by
 intro Z Θ env C σ H xs ds res S b e Q q
 unfold rP at e
 split at e
 case h_2=>cases e
 rename_i ds
 split at e
 case h_2=>cases e
 rename_i n ns hns
 cases e
 obtain ⟨v,rfl,bb⟩:=jl b
 obtain ⟨a,vs,rfl,ha,r⟩:=bb.lst
 rw [jW hns r] at ha
 exact ⟨a,_,rfl,cO.of ha,(fun z=>nomatch z),q _ H (bF.refl _ _) (aZ S rfl rfl)⟩
noncomputable def um:List PyData→Option Vl
 | [.dict []]=>none
 | [.dict ((k,v)::r)]=>match rN k with
  | some (b::sh)=>if r.length < 63∧(((k,v)::r).all fun p=>decide (rN p.1=some (b::sh)))=true then some (.ow (.list (rO (((k,v)::r).map (·.1))))) else none
  | _=>none
 | _=>none
theorem yr {sh:List Bool}:∀{kvs:List (PyData×PyData)} {ks:List (List Key)},cF cW kvs=some ks→(∀p∈kvs,rN p.1=some sh)→kvs.map (·.1)=ks.map (fun k=>.tuple (k.map Cu))∧∀k∈ks,k.map fV=sh
 | [],ks,h,_=>by cases h; exact ⟨rfl,fun _ m=>(nomatch m)⟩
 | (p,d)::kvs,ks,h,hs=>by
  unfold cF at h
  split at h
  ·rename_i k t h1 h2
   cases h
   obtain ⟨g1,g2⟩:=yr h2 fun q m=>hs q (List.mem_cons_of_mem _ m)
   have hp:=hs (p,d) List.mem_cons_self
   obtain ⟨xs,rfl,hx⟩:∃xs,p=.tuple xs∧keysOf xs=some k:=by
    have h1':cW p=some k:=h1
    cases p with
    | tuple xs=>exact ⟨xs,rfl,h1'⟩
    | _=>cases h1'
   have hp:(keysOf xs).map (fun ks=>ks.map fV)=some sh:=hp
   rw [hx] at hp
   refine ⟨by rw [List.map_cons,g1,qz hx]; rfl,fun k' m=>?_⟩
   rcases List.mem_cons.mp m with rfl | m
   ·exact Option.some.inj hp
   ·exact g2 k' m
  ·cases h
theorem Oc {K:PySem.W.Frag}:wY K (fun xs H Q=>∃(d:Addr) (kvs:List (List Key×V)) (b:Bool) (sh:List Bool),xs=[.ref d]∧H d=some (.dT kvs)∧kvs.length < 64∧(∀kv∈kvs,kv.1.map fV=b::sh)∧
  ∀(l:Addr) (rows:List Row),H l=none→(rows.map (·.2)).Perm (kvs.map (·.1))→rows.map (·.2)=wU (kvs.map (·.1))→(∀r∈rows,H r.1=some (.tup (r.2.map kV)))→Q (.ref l) (upd H l (.lst (rows.map fun r=>V.ref r.1)))) um:=by
 intro Z Θ env C σ H xs ds res S b e Q q
 unfold um at e
 split at e
 ·cases e
 ·rename_i k0 v0 r0
  split at e
  case h_2=>cases e
  rename_i b0 sh hsh
  split at e
  case isFalse=>cases e
  rename_i hall
  cases e
  have hall':∀p∈(k0,v0)::r0,rN p.1=some (b0::sh):=fun d m=>of_decide_eq_true (List.all_eq_true.mp hall.2 d m)
  obtain ⟨v,rfl,bb⟩:=jl b
  obtain ⟨a,vs,rfl,da,r⟩:=bb.dct
  rcases da with ⟨ks,h1,ha⟩ | ⟨ks,⟨ne,h2⟩,ha⟩
  ·exfalso
   unfold cF at h1
   split at h1
   ·rename_i k' t g1 g2
    have g1:d7 k0=some k':=g1
    cases k0 <;> first | cases g1 | skip
    all_goals cases hsh
   ·cases h1
  ·obtain ⟨e1,e2⟩:=yr h2 hall'
   have lk:=iU h2
   have lr:=uf r
   have ez:(ks.zip vs).map (·.1)=ks:=by
    rw [List.map_fst_zip]
    rw [lk,lr]
    exact Nat.le_refl _
   refine ⟨a,ks.zip vs,b0,sh,rfl,ha,?_,fun kv m=>e2 kv.1 (List.of_mem_zip (a:=kv.1) (b:=kv.2) m).1,fun l rows hn p hp hr=>?_⟩
   ·rw [List.length_zip,lk,lr,List.length_cons]
    omega
   ·rw [ez] at hp
    have ek:(((k0,v0)::r0).map (·.1)).map Ik=ks:=by
     rw [e1,List.map_map]
     refine (List.map_congr_left fun k _=>?_).trans (List.map_id ks)
     show (keysOf (k.map Cu)).getD []=k
     rw [vd]
     rfl
    have es:(rows.map fun r=>PyData.tuple (r.2.map Cu))=rO (((k0,v0)::r0).map (·.1)):=by
     unfold rO
     rw [ek,←hp,List.map_map]
     rfl
    rw [←es] at q
    exact q _ _ (bF.upd hn) (dY S (vf fun r m=>uT S (hr r m)) hn)
 ·cases e
theorem Od {K:PySem.W.Frag} {r r':List V→Hp→VK→Prop} {op op':List PyData→Option Vl} (h:wY K r op) (h':wY K r' op'):wY K (fun xs H Q=>r xs H Q∨r' xs H Q) (fun ds=>match op ds with | some z=>some z | none=>op' ds):=by
 intro Z Θ env C σ H xs ds res S b e Q q
 cases h1:op ds with
 | some z=>
  simp only [h1] at e
  cases e
  exact .inl (h Z Θ env C σ H xs ds _ S b h1 Q q)
 | none=>
  simp only [h1] at e
  exact .inr (h' Z Θ env C σ H xs ds res S b e Q q)
end
noncomputable def mU:List PyData→List PyData→List PyData
 | x::xs,y::ys=>.tuple [x,y]::mU xs ys
 | _,_=>[]
theorem zV:∀{xs ys:List PyData} {i:Nat} {d:PyData},(mU xs ys)[i]?=some d→∃x y,xs[i]?=some x∧ys[i]?=some y∧d=.tuple [x,y]
 | [],_,i,d,h=>by simp [mU] at h
 | _::_,[],i,d,h=>by simp [mU] at h
 | x::xs,y::ys,0,d,h=>by
  simp [mU] at h
  exact ⟨x,y,rfl,rfl,h.symm⟩
 | x::xs,y::ys,i + 1,d,h=>by
  obtain ⟨a,b,h1,h2,h3⟩:=zV (i:=i) (by simpa [mU] using h)
  exact ⟨a,b,by simpa using h1,by simpa using h2,h3⟩
theorem vg:∀{xs ys:List PyData},(mU xs ys).length=min xs.length ys.length
 | [],_=>by simp [mU]
 | _::_,[]=>by simp [mU]
 | x::xs,y::ys=>by simp [mU,vg,Nat.succ_min_succ]
theorem VR {K:PySem.W.Frag} {P T:List Addr} {H:Hp} {a b:Addr} {ds es:List PyData} {vs ws:List V} (ha:er T H a=some (.lst vs)) (hb:er T H b=some (.lst ws)) (r1:d8 (er P H) ds vs) (r2:d8 (er P H) es ws):wZ P T H (Z7 K a b) (mU ds es):=fun i H2 P2 s1 s2 n=>by
 have h2:cO K H2 a vs:=cO.of (bD (s2 _ _ ha))
 have h3:cO K H2 b ws:=cO.of (bD (s2 _ _ hb))
 refine ⟨fun d hd=>?_,fun hi=>⟨vs,ws,h2,h3,by rw [hi,vg,bL r1,bL r2]⟩⟩
 obtain ⟨x,y,e1,e2,rfl⟩:=zV hd
 obtain ⟨v,ev,rv⟩:=j6 r1 e1
 obtain ⟨w,ew,rw'⟩:=j6 r2 e2
 refine ⟨⟨vs,ws,h2,h3,?_⟩,fun z H3 yl=>?_⟩
 ·have l1:=(List.getElem?_eq_some_iff.mp ev).1
  have l2:=(List.getElem?_eq_some_iff.mp ew).1
  omega
 ·obtain ⟨p,v',w',hp,rfl,rfl,hh⟩:=yl
  obtain ⟨g1,g2⟩:=hh vs ws h2 h3
  rw [ev] at g1
  rw [ew] at g2
  cases g1
  cases g2
  have sp:aU H2 (upd H2 p (.tup [v,w])):=aU.upd hp
  refine ⟨sp,p,[v,w],rfl,?_,v,[w],rfl,rv.same (s1.trans (nH sp)),w,[],rfl,rw'.same (s1.trans (nH sp)),rfl⟩
  unfold er
  rw [if_neg (fun m=>n p m hp),aH]
end L2
namespace L2
open PySem PySem.Spec PyProof.Rows PySem.W
section
variable {X:Cx} {tg e:Expr}
noncomputable def itD2:PyData→Option (List PyData)
 | .list ds=>some ds
 | .tuple ds=>some ds
 | _=>none
noncomputable def iB2 (f:FB):FI:=fun env C=>match f env C with
 | some (d,e1,C1)=>match itD2 d with
  | some its=>some (its,e1,C1)
  | none=>none
 | none=>none
noncomputable def iV2 (f:FE):FI:=fun env C=>match f env C with
 | some (r,e1,C1)=>match still r with
  | .im d=>match itD2 d with
   | some its=>some (its,e1,C1)
   | none=>none
  | _=>none
 | none=>none
theorem CG {f:FB} (h:PE X e (mL X.K f)):PI X tg e (tI X.K true (iB2 f)):=((yV h).or (DK h)).weak fun σ H R aV=>by
 obtain ⟨Z,Θ,env,C,its,env',C',S,hf,q⟩:=aV
 unfold iB2 at hf
 split at hf
 ·rename_i d e1 C1 h1
  split at hf
  ·rename_i ys hi
   cases hf
   cases d <;> first | cases hi | skip
   ·refine .inl ⟨Z,Θ,env,C,_,env',C',S,h1,fun v H1 k f S1 b=>?_⟩
    obtain ⟨a,vs,rfl,ha,r⟩:=b
    exact ⟨a,rfl,⟨vs,cO.of (bD ha)⟩,q _ H1 k f S1 (zO ha r)⟩
   ·refine .inr ⟨Z,Θ,env,C,_,env',C',S,h1,fun v H1 k f S1 b=>?_⟩
    obtain ⟨a,vs,rfl,ha,r⟩:=b
    exact ⟨a,rfl,⟨vs,eX.of (bD ha)⟩,q _ H1 k f S1 (Ft ha r)⟩
  ·cases hf
 ·cases hf
theorem vh (hc:X.calm=true):cD X (.builtin "sorted") (fun xs H Q=>∃d:Addr,xs=[.ref d]∧H d=some (.dK [])∧∀l,H l=none→Q (.ref l) (upd H l (.lst []))):=by
 intro pins s σ H xs us Q I r h
 obtain ⟨d,rfl,hd,q⟩:=h
 refine cU (lG hc pins s σ (upd H d (.dT [])) [.ref d] us (fun v H'=>∃l,v=.ref l∧H l=none∧H'=upd (upd H d (.dT [])) l (.lst [])) (I.Y5 hd) r ⟨d,[],true,[],rfl,aH,by decide,(fun _ m=>nomatch m),fun l rows hl p _ _=>?_⟩) fun u s' ⟨v,H',I',rv,l,ev,hl,eH⟩=>?_
 ·have:rows=[]:=by
   cases rows with
   | nil=>rfl
   | cons _ _=>exact absurd p.length_eq (by simp)
  subst this
  refine ⟨l,rfl,?_,rfl⟩
  by_cases z:l=d
  ·subst z; rw [aH] at hl; cases hl
  ·rw [aJ z] at hl; exact hl
 ·subst ev eH
  have nd:d≠l:=bB hd hl
  have e:upd (upd H d (.dT [])) l (.lst [])=upd (upd H l (.lst [])) d (.dT []):=by
   funext b
   by_cases h1:b=l
   ·subst h1; rw [aH,aJ (Ne.symm nd),aH]
   ·rw [aJ h1]
    by_cases h2:b=d
    ·subst h2; rw [aH,aH]
    ·rw [aJ h2,aJ h2,aJ h1]
  rw [e] at I'
  exact ⟨.ref l,_,I'.reT (by rw [aJ nd]; exact hd),rv,q l hl⟩
noncomputable def zW:List PyData→Option Vl
 | [.dict []]=>some (.ow (.list []))
 | _=>none
theorem Oe {K:PySem.W.Frag}:wY K (fun xs H Q=>∃d:Addr,xs=[.ref d]∧H d=some (.dK [])∧∀l,H l=none→Q (.ref l) (upd H l (.lst []))) zW:=by
 intro Z Θ env C σ H xs ds res S b e Q q
 unfold zW at e
 split at e
 case h_2=>cases e
 cases e
 obtain ⟨v,rfl,bb⟩:=jl b
 obtain ⟨a,vs,rfl,da,r⟩:=bb.dct
 rcases da with ⟨ks,h1,ha⟩ | ⟨ks,⟨ne,_⟩,_⟩
 ·cases h1
  exact ⟨a,rfl,ha,fun l hl=>q _ _ (bF.upd hl) (dY S rfl hl)⟩
 ·exact absurd rfl ne
noncomputable def dI (ds:List PyData):Option Vl:=match iZ ds with
 | some z=>some z
 | none=>match um ds with
  | some z=>some z
  | none=>zW ds
noncomputable abbrev Og (K:PySem.W.Frag):List V→Hp→VK→Prop:=fun xs H Q=>Fw K xs H Q∨((∃(d:Addr) (kvs:List (List Key×V)) (b:Bool) (sh:List Bool),xs=[.ref d]∧H d=some (.dT kvs)∧kvs.length < 64∧(∀kv∈kvs,kv.1.map fV=b::sh)∧
  ∀(l:Addr) (rows:List Row),H l=none→(rows.map (·.2)).Perm (kvs.map (·.1))→rows.map (·.2)=wU (kvs.map (·.1))→(∀r∈rows,H r.1=some (.tup (r.2.map kV)))→Q (.ref l) (upd H l (.lst (rows.map fun r=>V.ref r.1))))∨∃d:Addr,xs=[.ref d]∧H d=some (.dK [])∧∀l,H l=none→Q (.ref l) (upd H l (.lst [])))
theorem kE (hc:X.calm=true):cD X (.builtin "sorted") (Og X.K):=FJ.or ((lG hc).or (vh hc))
theorem qD {K:PySem.W.Frag}:wY K (Og K) dI:=Od Ke (Od Oc Oe)
end
noncomputable def Oh:FN:=fun _ _=>none
theorem Rk {P:Program} {w:World} {K:PySem.W.Frag} {mg:Str→Option Value} {base:Heap} {f:Addr} {fd:FuncData} {ps:List Str}:dM P w K mg base qO 0 f fd ps (spT K Oh):=by
 have no:∀vs H Q E,¬spT K Oh vs H Q E:=fun vs H Q E ⟨_,_,_,_,_,_,_,_,h,_⟩=>nomatch h
 exact ⟨fun _ _ _ _ h=>(no _ _ _ _ h).elim,fun _ _ _ _ _ _ _ _ _ _ _ _ _ h=>(no _ _ _ _ h).elim⟩
end L2
namespace L2
open PySem PySem.Spec PyProof.Rows PySem.W
noncomputable def vm (i:Nat) (f:FB):FE:=fun env C=>match env[i]? with
 | some (some (.ce n))=>match f env C with
  | some (.int k,_,C1)=>match C1[n]? with
   | some ns=>match jB ns k with
    | some z=>some (.im (.int z),env,C1)
    | none=>none
   | none=>none
  | _=>none
 | _=>none
theorem pB {X:Cx} {o k:Expr} {i:Nat} {pos:Pos} {f:FB} (ho:PE X o (wK i)) (hk:PE X k (mL X.K f)) (hs:t7 k):PE X (.Subscript o k pos) (tE X.K (vm i f)):=(Lw zc ho hk hs).weak fun σ H Q aV=>by
 obtain ⟨Z,Θ,env,C,r,env',C',S,hf,q⟩:=aV
 unfold vm at hf
 split at hf
 case h_2=>cases hf
 rename_i n h0
 split at hf
 case h_2=>cases hf
 rename_i z e1 C1 h1
 split at hf
 case h_2=>cases hf
 rename_i ns hns
 split at hf
 case h_2=>cases hf
 rename_i y hy
 cases hf
 obtain ⟨v,ev,a,rfl,hth⟩:=S.slot i _ h0
 refine ⟨_,ev,Z,Θ,env,C,_,e1,C',S,h1,fun w H1 k1 f1 S1 b1=>?_⟩
 have S2:=S.go k1 S1.cell
 have ha:=S1.cell.at_ n a ns hth hns
 refine ⟨a,_,z,.int y,rfl,b1,cO.of ha,?_,q _ H1 k1 (Fz.refl _) ⟨S2,rfl⟩⟩
 unfold jB at hy ⊢
 rw [List.length_map]
 cases hj:Ec ns.length z with
 | none=>rw [hj] at hy; cases hy
 | some j=>
  rw [hj] at hy
  show (ns.map V.int)[j]?=_
  rw [List.getElem?_map,show ns[j]?=some y from hy]
  rfl
end L2
namespace L2
open PySem PySem.Spec PyProof.Rows PySem.W
noncomputable def Bx (C:Ce) (b:Nat) (n:Int):Prop:=∃x y z:Int,C[b]?=some [x,y,z]∧0≤x∧0≤y∧y≤3000000000∧0≤z∧z≤n
theorem Bx.mono {C:Ce} {b:Nat} {n m:Int} (h:Bx C b n) (hm:n≤m):Bx C b m:=by
 obtain ⟨x,y,z,h1,h2,h3,h4,h5,h6⟩:=h
 exact ⟨x,y,z,h1,h2,h3,h4,h5,by omega⟩
theorem zX {C:Ce} {b:Nat} {l l':List Int} (h:C[b]?=some l):(C.set b l')[b]?=some l':=by
 rw [List.getElem?_set,if_pos rfl,if_pos (List.getElem?_eq_some_iff.mp h).1]
theorem CJ {C C':Ce} (h:C'.length=C.length):C'.take C.length=C':=List.take_of_length_le (by omega)
theorem mul_eq {i j:Int} (h:(-18446744073709551616 < i∧i < 18446744073709551616)∨(-18446744073709551616 < j∧j < 18446744073709551616)):lK (.int i) (.int j)=some (.im (.int (i * j))):=by
 unfold lK
 exact if_pos h
theorem pow_eq {i j:Int} (h0:0≤j) (h1:j≤1000000) (h2:i.natAbs < 2 ^ 64):lJ (.int i) (.int j)=some (.im (.int (i ^ j.toNat))):=by
 unfold lJ
 exact if_pos ⟨h0,h1,h2⟩
theorem mod_eq {i j:Int} (h:0 < j):lH (.int i) (.int j)=some (.im (.int (i % j))):=by
 unfold lH
 exact if_pos h
theorem fdiv_eq {i j:Int} (h:0 < j) (h1:j < 1073741824):rE (.int i) (.int j)=some (.im (.int (i / j))):=by
 unfold rE
 exact if_pos ⟨h,h1⟩
theorem CN {g:FG} {body:FS} (I:Nat→En→Ce→Prop):∀{its:List PyData} {env:En} {C:Ce} {k:Nat},I k env C→
  (∀i d env C,its[i]?=some d→I (k + i) env C→∃e1 fl env' C',g d env=some e1∧body e1 C=some (fl,env',C')∧(fl=.nx∨fl=.ct)∧I (k + i + 1) env' C')→
  ∃env' C',lM g body its env C=some (.nx,env',C')∧I (k + its.length) env' C'
 | [],env,C,k,h,_=>⟨env,C,rfl,h⟩
 | d::r,env,C,k,h,st=>by
  obtain ⟨e1,fl,aaq,C1,h1,h2,h3,h4⟩:=st 0 d env C rfl h
  obtain ⟨VV,C2,h5,h6⟩:=CN I (its:=r) (env:=aaq) (C:=C1) (k:=k + 1) h4 fun i d' env C hd hi=>by
   have:=st (i + 1) d' env C (by simpa using hd) (by rw [show k + (i + 1)=k + 1 + i by omega]; exact hi)
   rw [show k + (i + 1) + 1=k + 1 + i + 1 by omega] at this
   exact this
  refine ⟨VV,C2,?_,by rw [List.length_cons,show k + (r.length + 1)=k + 1 + r.length by omega]; exact h6⟩
  unfold lM
  rw [h1]
  simp only
  rw [h2]
  rcases h3 with rfl | rfl <;> exact h5
theorem b7 {g:FG} {body:FS} (I:Nat→En→Ce→Prop) {its:List PyData} {env:En} {C:Ce} (h:I 0 env C)
  (st:∀i d env C,its[i]?=some d→I i env C→∃e1 fl env' C',g d env=some e1∧body e1 C=some (fl,env',C')∧(fl=.nx∨fl=.ct)∧I (i + 1) env' C'):
  ∃env' C',lM g body its env C=some (.nx,env',C')∧I its.length env' C':=by
 have:=CN I (k:=0) h fun i d env C hd hi=>by
  rw [Nat.zero_add] at hi ⊢
  exact st i d env C hd hi
 rw [Nat.zero_add] at this
 exact this
theorem jZ (lo:Int) (n:Nat):(oE lo n).length=n:=by unfold oE; rw [List.length_map,List.length_range]
theorem kI {lo:Int} {n i:Nat} {d:PyData} (h:(oE lo n)[i]?=some d):d=.int (lo + i)∧i < n:=by
 unfold oE at h
 rw [List.getElem?_map] at h
 by_cases hi:i < n
 ·rw [List.getElem?_range hi] at h
  exact ⟨(Option.some.inj h).symm,hi⟩
 ·rw [List.getElem?_eq_none (by rw [List.length_range]; omega)] at h
  cases h
theorem pC {T:n6} {ft:FT} {fe:FE} {fs:En} {C:Ce} (p:PyData→Bool) (g:PyData→PyData):∀{its:List PyData},(∀d∈its,∃ts,TF T d=some ts∧ft (jj ts++fs) C=some (p d,C)∧(p d=true→∃x e,fe (jj ts++fs) C=some (x,e,C)∧still x=.im (g d)))→
  cG T ft fe fs its C=some ((its.filter p).map g,C)
 | [],_=>rfl
 | d::r,h=>by
  obtain ⟨ts,h1,h2,h3⟩:=h d List.mem_cons_self
  have ih:=pC p g (its:=r) fun d m=>h d (List.mem_cons_of_mem _ m)
  unfold cG
  simp only [h1]
  rw [h2]
  cases hp:p d with
  | true=>
   obtain ⟨x,e,h4,h5⟩:=h3 hp
   simp only [h4,h5,ih,List.filter_cons,hp,if_true,List.map_cons]
  | false=>
   simp only [ih,List.filter_cons,hp]
   rfl
theorem yt {T:n6} {fe:FE} {fs:En} (I:Nat→Ce→Prop) (R:Nat→PyData→Prop):∀{its:List PyData} {C:Ce} {k:Nat},I k C→(∀i d C,its[i]?=some d→I (k + i) C→∃ts x e C' y,TF T d=some ts∧fe (jj ts++fs) C=some (x,e,C')∧still x=.im y∧R (k + i) y∧I (k + i + 1) C')→
  ∃ys C',cG T dN fe fs its C=some (ys,C')∧I (k + its.length) C'∧ys.length=its.length∧∀i y,ys[i]?=some y→R (k + i) y
 | [],C,k,h,_=>⟨[],C,rfl,h,rfl,fun i y e=>by simp at e⟩
 | d::r,C,k,h,st=>by
  obtain ⟨ts,x,e,C1,y,h1,h2,h3,h4,h5⟩:=st 0 d C rfl h
  obtain ⟨ys,C2,h6,h7,h8,h9⟩:=yt I R (its:=r) (C:=C1) (k:=k + 1) h5 fun i d' C hd hi=>by
   have:=st (i + 1) d' C (by simpa using hd) (by rw [show k + (i + 1)=k + 1 + i by omega]; exact hi)
   rw [show k + (i + 1) + 1=k + 1 + i + 1 by omega,show k + (i + 1)=k + 1 + i by omega] at this
   exact this
  refine ⟨y::ys,C2,?_,by rw [List.length_cons,show k + (r.length + 1)=k + 1 + r.length by omega]; exact h7,by simp [h8],fun i z hz=>?_⟩
  ·unfold cG
   simp only [h1,dN,h2,h3]
   rw [h6]
  ·cases i with
   | zero=>simp at hz; subst hz; exact h4
   | succ i=>
    have:=h9 i z (by simpa using hz)
    rw [show k + (i + 1)=k + 1 + i by omega]
    exact this
theorem V0 {f:FE} {env e1:En} {C C1:Ce} {r:Vl} {d:PyData} (h:f env C=some (r,e1,C1)) (h2:dat r=some d):aB f env C=some (d,e1,C1):=by
 unfold aB
 simp only [h,h2,Option.map_some]
theorem V1 {op:PyData→PyData→Option Vl} {fa fb:FB} {env e1 e2:En} {C C1 C2:Ce} {x y:PyData} {r:Vl} (h1:fa env C=some (x,e1,C1)) (h2:fb e1 C1=some (y,e2,C2)) (h3:op x y=some r):aG op fa fb env C=some (r,rst r env e2,C2):=by
 unfold aG
 simp only [h1,h2,h3]
theorem FZ {α:Type} {xs:List α} {k:Int} (h0:0≤k) (h1:k < xs.length):∃x,jB xs k=some x∧xs[k.toNat]?=some x:=by
 have hk:k.toNat < xs.length:=by omega
 refine ⟨xs[k.toNat],?_,List.getElem?_eq_getElem hk⟩
 unfold jB Ec
 rw [if_pos h0,if_pos h1]
 exact List.getElem?_eq_getElem hk
end L2
namespace L2
open PySem PySem.Spec PyProof.Rows PySem.W
noncomputable def Yh (z:Str):Bool:=z.cps.toList.all fun c=>decide (97≤c)&&decide (c≤122)
noncomputable def nameB (z:Str):Bool:=decide (1≤z.length)&&decide (z.length≤8)&&Yh z
noncomputable abbrev abc:Str:=Str.ofString "abcdefghijklmnopqrstuvwxyz"
theorem V2 {r:Int} (r0:0≤r) (r1:r < 26):jB abc.cps.toList r=some (97 + r.toNat):=by
 have h:∀k:Nat,k < 26→jB abc.cps.toList (k:Int)=some (97 + k):=by decide +kernel
 have:=h r.toNat (by omega)
 rwa [Int.toNat_of_nonneg r0] at this
theorem vo:∀(l:List Nat) (a:Array Nat),((l.map fun c=>(⟨#[c]⟩:Str)).foldl (fun acc p=>acc++(Str.ofString "").cps++p.cps) a).toList=a.toList++l
 | [],a=>by simp
 | c::r,a=>by
  simp only [List.map_cons,List.foldl_cons]
  rw [vo r]
  have e:(Str.ofString "").cps=#[]:=by decide +kernel
  rw [e]
  simp
theorem Ga:∀(l:List Nat),(Txt.join (Str.ofString "") (l.map fun c=>(⟨#[c]⟩:Str))).cps.toList=l
 | []=>by decide +kernel
 | c::r=>by
  show (((r.map fun c=>(⟨#[c]⟩:Str))).foldl (fun acc p=>acc++(Str.ofString "").cps++p.cps) #[c]).toList=c::r
  rw [vo r]
  rfl
theorem Iv:∀ys:List Nat,(ys.map ((fun x:Str=>x.length) ∘ fun c=>(⟨#[c]⟩:Str))).sum=ys.length
 | []=>rfl
 | c::r=>by
  rw [List.map_cons,List.sum_cons,Iv r,List.length_cons]
  show 1 + r.length=r.length + 1
  omega
theorem Kf {l:List Nat} (h1:1≤l.length) (h2:l.length≤8) (h3:∀c∈l,97≤c∧c≤122):nameB (Txt.join (Str.ofString "") (l.map fun c=>(⟨#[c]⟩:Str)))=true:=by
 have e:=Ga l
 have e2:(Txt.join (Str.ofString "") (l.map fun c=>(⟨#[c]⟩:Str))).length=l.length:=by
  show (Txt.join (Str.ofString "") (l.map fun c=>(⟨#[c]⟩:Str))).cps.size=_
  rw [show l.length=(Txt.join (Str.ofString "") (l.map fun c=>(⟨#[c]⟩:Str))).cps.toList.length from congrArg List.length e.symm]
  simp
 unfold nameB Yh
 rw [e,e2]
 simp only [Bool.and_eq_true,decide_eq_true_eq,List.all_eq_true]
 exact ⟨⟨h1,h2⟩,h3⟩
theorem Yi (n:Nat):(Builtin.Str.strSliceIndices none (some 7) 1 n).length≤7:=by
 unfold Builtin.Str.strSliceIndices sliceRange
 simp only [show (1:Int) > 0 by decide,if_true,List.length_map,List.length_range]
 split <;> (try split) <;> (try split) <;> (try simp only [Int.ediv_one]) <;> omega
theorem vp (z:Str):(Txt.slice z none (some 7)).length≤7:=by
 unfold Txt.slice
 split
 ·rename_i h
  have h2:(Builtin.Str.strSliceIndices none (some 7) 1 z.length).length=z.length:=by simpa using h
  have:=Yi z.length
  omega
 ·show (((Builtin.Str.strSliceIndices none (some 7) 1 z.length).filterMap (z.cps[·]?)).toArray).size≤7
  rw [List.size_toArray]
  exact Nat.le_trans (List.length_filterMap_le _ _) (Yi _)
theorem Rm {z:Str} {l u:Option Int} {c:Nat} (hc:c∈(Txt.slice z l u).cps.toList):c∈z.cps.toList:=by
 unfold Txt.slice at hc
 split at hc
 ·exact hc
 ·have hc':c∈((Builtin.Str.strSliceIndices l u 1 z.length).filterMap (z.cps[·]?)):=by simpa using hc
  obtain ⟨i,_,e⟩:=List.mem_filterMap.mp hc'
  have:=Array.mem_of_getElem? e
  simpa using this
noncomputable def lW (z:Str) (k:Nat):Str:=Txt.slice z none (some 7)++(⟨#[97 + k]⟩:Str)
theorem rQ (z:Str) (k:Nat):(lW z k).cps.toList=(Txt.slice z none (some 7)).cps.toList++[97 + k]:=by
 show ((Txt.slice z none (some 7)).cps++#[97 + k]).toList=_
 simp
theorem yu {z:Str} (h:nameB z=true) {k:Nat} (hk:k < 26):nameB (lW z k)=true:=by
 have hl:(lW z k).length=(Txt.slice z none (some 7)).length + 1:=by
  show ((Txt.slice z none (some 7)).cps++#[97 + k]).size=_
  rw [Array.size_append]
  rfl
 have:=vp z
 unfold nameB Yh at h ⊢
 simp only [Bool.and_eq_true,decide_eq_true_eq,List.all_eq_true] at h ⊢
 refine ⟨⟨by omega,by omega⟩,fun c hc=>?_⟩
 rw [rQ] at hc
 rcases List.mem_append.mp hc with hc | hc
 ·exact h.2 c (Rm hc)
 ·rw [List.mem_singleton.mp hc]
  omega
theorem Oi {z:Str} {i j:Nat} (h:lW z i=lW z j):i=j:=by
 have e:(lW z i).cps.toList=(lW z j).cps.toList:=by rw [h]
 rw [rQ,rQ] at e
 have:=List.append_cancel_left e
 simp at this
 exact this
theorem CP {α:Type} [DecidableEq α]:∀{l m:List α},l.Nodup→(∀x∈l,x∈m)→l.length≤m.length
 | [],_,_,_=>Nat.zero_le _
 | a::l,m,hn,hs=>by
  have hn':=List.nodup_cons.mp hn
  have ha:=hs a List.mem_cons_self
  have ih:=CP (m:=m.erase a) hn'.2 fun x hx=>(List.mem_erase_of_ne (fun (e:x=a)=>hn'.1 (by rw [←e]; exact hx))).mpr (hs x (List.mem_cons_of_mem _ hx))
  rw [List.length_erase_of_mem ha] at ih
  have:0 < m.length:=List.length_pos_of_mem ha
  rw [List.length_cons]
  omega
theorem Oj (z:Str) {zs:List Str} (h:zs.length < 26):∃k,k < 26∧lW z k∉zs:=by
 by_cases hx:∃k,k < 26∧lW z k∉zs
 ·exact hx
 ·have all:∀x∈(List.range 26).map (lW z),x∈zs:=fun x hm=>by
   obtain ⟨k,hk,rfl⟩:=List.mem_map.mp hm
   by_cases hm2:lW z k∈zs
   ·exact hm2
   ·exact absurd ⟨k,List.mem_range.mp hk,hm2⟩ hx
  have nd:((List.range 26).map (lW z)).Nodup:=by
   rw [List.Nodup,List.pairwise_map]
   exact List.Pairwise.imp (fun {a b} hab e=>hab (Oi e)) (List.nodup_range (n:=26))
  have:=CP nd all
  simp at this
  omega
noncomputable def Names (zs:List Str):Prop:=zs.Nodup∧∀z∈zs,nameB z=true
theorem vq (z:Str) (zs:List Str):inD (.str z) (zs.map .str)=decide (z∈zs):=by
 unfold inD
 rw [Bool.eq_iff_iff,List.any_map]
 simp [List.any_eq_true,Lx,toV]
theorem vz {z:Str} (h:nameB z=true):1≤z.length∧z.length≤8∧∀c∈z.cps.toList,97≤c∧c≤122:=by
 unfold nameB Yh at h
 simp only [Bool.and_eq_true,decide_eq_true_eq,List.all_eq_true] at h
 exact ⟨h.1.1,h.1.2,h.2⟩
end L2
namespace L2
open PySem PySem.Spec PyProof.Rows PySem.W
noncomputable def Asc (z:Str):Prop:=∀c∈z.cps.toList,c < 128
noncomputable def xj (n:Nat) (z:Str):Prop:=Asc z∧z.length≤n
theorem xj.mono {n m:Nat} {z:Str} (h:xj n z) (hm:n≤m):xj m z:=⟨h.1,Nat.le_trans h.2 hm⟩
theorem xj.line {n:Nat} {z:Str} (h:xj n z) (hn:n≤100000:=by omega):z.length≤sizeLine:=Qw (m:=100000) (Nat.le_trans h.2 hn)
theorem xj.slice {n:Nat} {z:Str} (h:xj n z) (l u:Option Int):xj n (Txt.slice z l u):=by
 refine ⟨fun c hc=>?_,Nat.le_trans (Txt.slice_le z l u) h.2⟩
 unfold Txt.slice at hc
 split at hc
 ·exact h.1 c hc
 ·have hc':c∈((Builtin.Str.strSliceIndices l u 1 z.length).filterMap (z.cps[·]?)):=by simpa using hc
  obtain ⟨i,_,e⟩:=List.mem_filterMap.mp hc'
  refine h.1 c ?_
  have:=Array.mem_of_getElem? e
  simpa using this
theorem xj.add {n m:Nat} {x y:Str} (h:xj n x) (g:xj m y):xj (n + m) (x++y):=by
 have e:(x++y).cps=x.cps++y.cps:=rfl
 refine ⟨fun c hc=>?_,?_⟩
 ·rw [e] at hc
  have:c∈x.cps.toList∨c∈y.cps.toList:=by simpa using hc
  exact this.elim (h.1 c) (g.1 c)
 ·show (x++y).cps.size≤_
  rw [e,Array.size_append]
  exact Nat.add_le_add h.2 g.2
theorem xj.name {z:Str} (h:nameB z=true):xj 8 z:=by
 unfold nameB Yh at h
 simp only [Bool.and_eq_true,decide_eq_true_eq,List.all_eq_true] at h
 exact ⟨fun c hc=>by have:=h.2 c hc; omega,h.1.2⟩
noncomputable def cg (zs:List Str) (ps:List (Str×Str)):Prop:=∀(i:Nat) (x:Str×Str),ps[i]?=some x→zs[i]?=some x.1∧(x.2=Str.ofString ""∨∃j,j < i∧zs[j]?=some x.2)
theorem cg.snoc {zs:List Str} {ps:List (Str×Str)} {a b:Str} (h:cg zs ps) (ha:zs[ps.length]?=some a) (hb:b=Str.ofString ""∨∃j,j < ps.length∧zs[j]?=some b):cg zs (ps++[(a,b)]):=by
 intro i x e
 by_cases hi:i < ps.length
 ·rw [List.getElem?_append_left hi] at e
  exact h i x e
 ·rw [List.getElem?_append_right (by omega)] at e
  by_cases h0:i - ps.length=0
  ·rw [h0] at e
   cases e
   have:i=ps.length:=by omega
   subst this
   exact ⟨ha,hb⟩
  ·rw [List.getElem?_eq_none (by simp; omega)] at e
   cases e
noncomputable def cQ (ps:List (Str×Str)) (z:Str):Option Str:=(ps.find? fun p=>decide (p.1=z)).map (·.2)
inductive Over (f:Str→Option Str):Str→List Str→Prop
 | stop {z:Str}:f z=none→Over f z []
 | step {z y:Str} {r:List Str}:f z=some y→Over f y r→Over f z (z::r)
structure Gb (e B:Nat) (d:PyData):Prop where
 V3:d.showable=true
 deep:d.depth≤e
 len:d.shown.length≤B
theorem Rn {i:Int} (h0:0≤i) (h1:i < 10 ^ 12):Gb 0 12 (.int i):=by
 refine ⟨?_,by simp [PyData.depth],?_⟩
 ·have:i.natAbs < 2 ^ 40:=by omega
  have h2:i.natAbs.log2 < 1920:=by
   by_cases h:i.natAbs=0
   ·rw [h]; decide
   ·have:=(Nat.log2_lt h).mpr this
    omega
  simpa [PyData.showable] using h2
 ·rw [PyData.shown_int]
  exact PyProof.Rows.toString_length_le h0 (by decide) h1
theorem gw {z:Str} (h:xj 8 z):Gb 0 82 (.str z):=by
 refine ⟨by simp [PyData.showable],by simp [PyData.depth],?_⟩
 rw [PyData.shown_str]
 refine Nat.le_trans (StrLaws.reprText_len z fun c hc=>Nat.lt_of_lt_of_le (h.1 c hc) (by decide)) ?_
 have:=h.2
 omega
theorem Iw {e B:Nat}:∀{ds:List PyData},(∀d∈ds,Gb e B d)→PyData.showableAll ds=true∧PyData.depthAll ds≤e∧((PyData.shownAll ds).map (·.length)).sum≤ds.length * B
 | [],_=>⟨by simp [PyData.showableAll],by simp [PyData.depthAll],by simp [PyData.shownAll]⟩
 | d::ds,h=>by
  obtain ⟨h1,h2,h3⟩:=Iw fun x hx=>h x (List.mem_cons_of_mem _ hx)
  have g:=h d List.mem_cons_self
  refine ⟨by simp [PyData.showableAll,g.V3,h1],?_,?_⟩
  ·simp only [PyData.depthAll]
   have:=g.deep
   omega
  ·simp only [PyData.shownAll,List.map_cons,List.sum_cons,List.length_cons]
   have:=g.len
   rw [Nat.succ_mul]
   omega
theorem fL {e B C:Nat} {ds:List PyData} (h:∀d∈ds,Gb e B d) (hc:ds.length≤C):Gb (e + 1) (C * (B + 2) + 3) (.tuple ds):=by
 obtain ⟨h1,h2,h3⟩:=Iw h
 refine ⟨by simpa [PyData.showable] using h1,by simp [PyData.depth]; omega,?_⟩
 simp only [PyData.shown]
 have:=tupleText_len_le (PyData.shownAll ds)
 have hl:(PyData.shownAll ds).length=ds.length:=PyData.shownAll_length ds
 rw [hl] at this
 have hm:ds.length * B≤C * B:=Nat.mul_le_mul_right B hc
 rw [Nat.mul_add]
 omega
theorem Gb.mono {e e' B B':Nat} {d:PyData} (h:Gb e B d) (he:e≤e') (hB:B≤B'):Gb e' B' d:=⟨h.V3,Nat.le_trans h.deep he,Nat.le_trans h.len hB⟩
noncomputable abbrev dJ:=Int×Str×Int×Str×Int×Int
noncomputable abbrev pD:=Int×Str×Str×Str×Int×Int×Int
noncomputable abbrev oK:=Int×Str
noncomputable abbrev cY:=Str×Int×List oK
noncomputable def cZ (r:dJ):PyData:=.tuple [.int r.1,.str r.2.1,.int r.2.2.1,.str r.2.2.2.1,.int r.2.2.2.2.1,.int r.2.2.2.2.2]
noncomputable def kJ (r:pD):PyData:=.tuple [.int r.1,.str r.2.1,.str r.2.2.1,.str r.2.2.2.1,.int r.2.2.2.2.1,.int r.2.2.2.2.2.1,.int r.2.2.2.2.2.2]
noncomputable def oM (s:oK):PyData:=.tuple [.int s.1,.str s.2]
noncomputable def dR (ss:List oK):PyData:=.tuple (ss.map oM)
noncomputable def jb (r:cY):PyData:=.tuple [.str r.1,.int r.2.1,dR r.2.2]
noncomputable def cI (p:Str×Str):PyData:=.tuple [.str p.1,.str p.2]
structure dh where
 ps:List (Str×Str)
 bw:List dJ
 leaves:List pD
 rules:List cY
noncomputable def bG (h:dh):PyData:=.tuple [.tuple (h.ps.map cI),.tuple (h.bw.map cZ),.tuple (h.leaves.map kJ),.tuple (h.rules.map jb)]
structure Gd (zs own:List Str) (r:dJ):Prop where
 num:0≤r.1∧r.1≤2000
 who:r.2.1∈zs
 rank:1≤r.2.2.1∧r.2.2.1≤9
 part:r.2.2.2.1∈own
 days:0≤r.2.2.2.2.1∧r.2.2.2.2.1≤r.2.2.2.2.2∧r.2.2.2.2.2≤99999
structure zY (zs own:List Str) (r:pD):Prop where
 num:0≤r.1∧r.1≤2000
 giver:r.2.1∈zs
 taker:r.2.2.1∈zs
 ne:r.2.1≠r.2.2.1
 part:r.2.2.2.1∈own
 days:0≤r.2.2.2.2.1∧r.2.2.2.2.1≤r.2.2.2.2.2.1∧r.2.2.2.2.2.1≤99999
 most:0≤r.2.2.2.2.2.2∧r.2.2.2.2.2.2≤1000000000
noncomputable def Ol (own:List Str) (s:oK):Prop:=1≤s.1∧s.1≤9∧(s.2=Str.ofString ""∨s.2∈own)
structure pF (own:List Str) (r:cY):Prop where
 part:r.1∈own
 sum:0≤r.2.1∧r.2.1≤1000000000
 many:r.2.2.length≤6
 seats:∀s∈r.2.2,Ol own s
structure eF (zs:List Str) (ps:List (Str×Str)) (h:dh):Prop where
 parts:h.ps.Perm ps
 p8:ps.length≤8
 r20:h.bw.length≤20
 Yj:h.leaves.length≤16
 u10:h.rules.length≤10
 bw:∀r∈h.bw,Gd zs (ps.map (·.1)) r
 rup:(h.bw.map (·.1)).Pairwise (· < ·)
 leaves:∀r∈h.leaves,zY zs (ps.map (·.1)) r
 lup:(h.leaves.map (·.1)).Pairwise (· < ·)
 rules:∀r∈h.rules,pF (ps.map (·.1)) r
 unlike:(h.rules.map fun r=>(r.1,r.2.1)).Nodup
theorem TV:xj 8 (Str.ofString ""):=by
 have e:(Str.ofString "").cps.toList=[]:=by decide +kernel
 refine ⟨fun c hc=>?_,by decide +kernel⟩
 rw [e] at hc
 exact absurd hc (by simp)
theorem Kg {zs:List Str} {ps:List (Str×Str)} {h:dh} (hz:∀z∈zs,nameB z=true) (hp:cg zs ps) (g:eF zs ps h):Gb 5 200000 (bG h):=by
 have sz:∀z∈zs,xj 8 z:=fun z hm=>xj.name (hz z hm)
 have pz:∀x∈ps,xj 8 x.1∧xj 8 x.2:=fun x hx=>by
  obtain ⟨i,hi,rfl⟩:=List.getElem_of_mem hx
  obtain ⟨e1,e2⟩:=hp i ps[i] (List.getElem?_eq_getElem hi)
  refine ⟨sz _ (List.mem_of_getElem? e1),?_⟩
  rcases e2 with e2 | ⟨j,_,e2⟩
  ·rw [e2]
   exact TV
  ·exact sz _ (List.mem_of_getElem? e2)
 have oz:∀z∈ps.map (·.1),xj 8 z:=fun z hm=>by
  obtain ⟨x,hx,rfl⟩:=List.mem_map.mp hm
  exact (pz x hx).1
 have int':∀{i:Int},0≤i→i < 10 ^ 12→Gb 0 82 (.int i):=fun a b=>(Rn a b).mono (Nat.le_refl _) (by decide)
 have s1:Gb 2 (8 * (171 + 2) + 3) (.tuple (h.ps.map cI)):=by
  refine fL (e:=1) (B:=171) (fun d hd=>?_) (by rw [List.length_map,g.parts.length_eq]; exact g.p8)
  obtain ⟨x,hx,rfl⟩:=List.mem_map.mp hd
  have:=pz x (g.parts.mem_iff.mp hx)
  refine fL (e:=0) (B:=82) (C:=2) (fun d hd=>?_) (Nat.le_refl _)
  simp only [List.mem_cons,List.not_mem_nil,or_false] at hd
  rcases hd with rfl | rfl
  ·exact gw this.1
  ·exact gw this.2
 have s2:Gb 2 (20 * (507 + 2) + 3) (.tuple (h.bw.map cZ)):=by
  refine fL (e:=1) (B:=507) (fun d hd=>?_) (by rw [List.length_map]; exact g.r20)
  obtain ⟨x,hx,rfl⟩:=List.mem_map.mp hd
  have k:=g.bw x hx
  refine fL (e:=0) (B:=82) (C:=6) (fun d hd=>?_) (Nat.le_refl _)
  have k1:=k.num
  have k3:=k.rank
  have k5:=k.days
  simp only [List.mem_cons,List.not_mem_nil,or_false] at hd
  rcases hd with rfl | rfl | rfl | rfl | rfl | rfl
  ·exact int' (by omega) (by omega)
  ·exact gw (sz _ k.who)
  ·exact int' (by omega) (by omega)
  ·exact gw (oz _ k.part)
  ·exact int' (by omega) (by omega)
  ·exact int' (by omega) (by omega)
 have s3:Gb 2 (16 * (591 + 2) + 3) (.tuple (h.leaves.map kJ)):=by
  refine fL (e:=1) (B:=591) (fun d hd=>?_) (by rw [List.length_map]; exact g.Yj)
  obtain ⟨x,hx,rfl⟩:=List.mem_map.mp hd
  have k:=g.leaves x hx
  refine fL (e:=0) (B:=82) (C:=7) (fun d hd=>?_) (Nat.le_refl _)
  have k1:=k.num
  have k3:=k.most
  have k5:=k.days
  simp only [List.mem_cons,List.not_mem_nil,or_false] at hd
  rcases hd with rfl | rfl | rfl | rfl | rfl | rfl | rfl
  ·exact int' (by omega) (by omega)
  ·exact gw (sz _ k.giver)
  ·exact gw (sz _ k.taker)
  ·exact gw (oz _ k.part)
  ·exact int' (by omega) (by omega)
  ·exact int' (by omega) (by omega)
  ·exact int' (by omega) (by omega)
 have s4:Gb 4 (10 * (3132 + 2) + 3) (.tuple (h.rules.map jb)):=by
  refine fL (e:=3) (B:=3132) (fun d hd=>?_) (by rw [List.length_map]; exact g.u10)
  obtain ⟨x,hx,rfl⟩:=List.mem_map.mp hd
  have k:=g.rules x hx
  have k2:=k.sum
  have st:Gb 2 (6 * (171 + 2) + 3) (dR x.2.2):=by
   refine fL (e:=1) (B:=171) (fun d hd=>?_) (by rw [List.length_map]; exact k.many)
   obtain ⟨y,hy,rfl⟩:=List.mem_map.mp hd
   obtain ⟨y1,y2,y3⟩:=k.seats y hy
   refine fL (e:=0) (B:=82) (C:=2) (fun d hd=>?_) (Nat.le_refl _)
   simp only [List.mem_cons,List.not_mem_nil,or_false] at hd
   rcases hd with rfl | rfl
   ·exact int' (by omega) (by omega)
   ·rcases y3 with y3 | y3
    ·rw [y3]
     exact gw TV
    ·exact gw (oz _ y3)
  refine (fL (e:=2) (B:=1041) (C:=3) (ds:=[.str x.1,.int x.2.1,dR x.2.2]) (fun d hd=>?_) (Nat.le_refl _)).mono (by decide) (by decide)
  simp only [List.mem_cons,List.not_mem_nil,or_false] at hd
  rcases hd with rfl | rfl | rfl
  ·exact (gw (oz _ k.part)).mono (by decide) (by decide)
  ·exact (int' (by omega) (by omega)).mono (by decide) (by decide)
  ·exact st.mono (by decide) (by decide)
 refine (fL (e:=4) (B:=32000) (C:=4) (ds:=[.tuple (h.ps.map cI),.tuple (h.bw.map cZ),.tuple (h.leaves.map kJ),.tuple (h.rules.map jb)]) (fun d hd=>?_) (Nat.le_refl _)).mono (by decide) (by decide)
 simp only [List.mem_cons,List.not_mem_nil,or_false] at hd
 rcases hd with rfl | rfl | rfl | rfl
 ·exact s1.mono (by decide) (by decide)
 ·exact s2.mono (by decide) (by decide)
 ·exact s3.mono (by decide) (by decide)
 ·exact s4.mono (by decide) (by decide)
theorem vA {z:Str} (h:nameB z=true):PyData.strOk z=true:=by
 unfold PyData.strOk
 rw [Array.all_eq_true']
 intro c hc
 have:=(vz h).2.2 c (by simpa using hc)
 exact decide_eq_true (by omega)
theorem vB:∀{zs:List Str},(∀z∈zs,PyData.strOk z=true)→PyData.canLayAll0 (zs.map PyData.str)=true∧PyData.depthAll (zs.map PyData.str)=0∧iR (zs.map PyData.str)=true
 | [],_=>⟨by simp [PyData.canLayAll0],by simp [PyData.depthAll],rfl⟩
 | z::zs,h=>by
  obtain ⟨h1,h2,h3⟩:=vB fun x hx=>h x (List.mem_cons_of_mem _ hx)
  refine ⟨by simp [PyData.canLayAll0,PyData.canLay0,h z List.mem_cons_self]; simpa using h1,by simp only [List.map_cons,PyData.depthAll,PyData.depth,h2]; rfl,?_⟩
  show (true&&iR (zs.map PyData.str))=true
  rw [h3]
  rfl
theorem CQ {zs:List Str} (h:∀z∈zs,PyData.strOk z=true):PySem.SeqAt.shaped (.list (zs.map PyData.str))=true:=by
 obtain ⟨h1,h2,_⟩:=vB h
 unfold PySem.SeqAt.shaped
 simp only [PyData.canLay0,h1,PyData.depth,h2]
 decide
theorem TX (a b:Int):∃lo hi:Int,dI [.list [.int a,.int b]]=some (.ow (.list [.int lo,.int hi]))∧lo≤hi∧(lo=a∨lo=b)∧(hi=a∨hi=b):=by
 by_cases h:b < a
 ·refine ⟨b,a,?_,by omega,.inr rfl,.inl rfl⟩
  have:gK ltI [a,b]=[b,a]:=by simp [gK,ins,ltI,h]
  simp [dI,iZ,u9,intsOf,this]
 ·refine ⟨a,b,?_,by omega,.inl rfl,.inr rfl⟩
  have:gK ltI [a,b]=[a,b]:=by simp [gK,ins,ltI,h]
  simp [dI,iZ,u9,intsOf,this]
theorem qF {α β:Type} {f:α→β}:∀{l:List α} {m:List β},m.Perm (l.map f)→∃l':List α,l'.Perm l∧m=l'.map f:=fun {l m} p=>by
 generalize e:l.map f=k at p
 induction p generalizing l with
 | nil=>
  cases l with
  | nil=>exact ⟨[],List.Perm.refl _,rfl⟩
  | cons _ _=>cases e
 | @cons x m k _ ih=>
  cases l with
  | nil=>cases e
  | cons a l=>
   rw [List.map_cons,List.cons.injEq] at e
   obtain ⟨l',p',rfl⟩:=ih e.2
   exact ⟨a::l',p'.cons a,by rw [List.map_cons,e.1]⟩
 | swap x y m=>
  cases l with
  | nil=>cases e
  | cons a l=>
   cases l with
   | nil=>cases e
   | cons b l=>
    rw [List.map_cons,List.map_cons,List.cons.injEq,List.cons.injEq] at e
    obtain ⟨e1,e2,e3⟩:=e
    exact ⟨b::a::l,List.Perm.swap a b l,by rw [List.map_cons,List.map_cons,e1,e2,e3]⟩
 | trans _ _ ih1 ih2=>
  obtain ⟨l2,p2,e2⟩:=ih2 e
  obtain ⟨l1,p1,e1⟩:=ih1 e2.symm
  exact ⟨l1,p1.trans p2,e1⟩
end L2
namespace L2
open PySem PySem.Spec PyProof.Rows PySem.W
theorem Ge (x:Str×Str) (ps:List (Str×Str)) (z:Str):cQ (x::ps) z=if x.1=z then some x.2 else cQ ps z:=by
 unfold cQ
 rw [List.find?_cons]
 by_cases h:x.1=z
 ·rw [decide_eq_true h,if_pos h]
  rfl
 ·rw [decide_eq_false h,if_neg h]
theorem di:∀{ps:List (Str×Str)} {z w:Str},(ps.map (·.1)).Nodup→(cQ ps z=some w ↔ (z,w)∈ps)
 | [],z,w,_=>by simp [cQ]
 | x::ps,z,w,h=>by
  rw [List.map_cons,List.nodup_cons] at h
  rw [Ge]
  by_cases hz:x.1=z
  ·rw [if_pos hz,List.mem_cons]
   constructor
   ·intro e
    left
    rw [←hz,←Option.some.inj e]
   ·rintro (e | e)
    ·rw [←e]
    ·exact absurd (List.mem_map.mpr ⟨(z,w),e,hz.symm⟩) h.1
  ·rw [if_neg hz,di h.2,List.mem_cons]
   constructor
   ·exact .inr
   ·rintro (e | e)
    ·exact absurd (by rw [←e]) hz
    ·exact e
theorem Gf {ps ps':List (Str×Str)} (p:ps'.Perm ps) (h:(ps.map (·.1)).Nodup) (z:Str):cQ ps' z=cQ ps z:=by
 have h':(ps'.map (·.1)).Nodup:=(p.map (·.1)).nodup_iff.mpr h
 cases e:cQ ps z with
 | some w=>exact (di h').mpr (p.mem_iff.mpr ((di h).mp e))
 | none=>
  cases e':cQ ps' z with
  | none=>rfl
  | some w=>
   have:=(di h).mpr (p.mem_iff.mp ((di h').mp e'))
   rw [e] at this
   cases this
theorem vC {zs:List Str} {ps:List (Str×Str)} (h:cg zs ps):ps.map (·.1)=zs.take ps.length:=by
 apply List.ext_getElem?
 intro i
 rw [List.getElem?_map,List.getElem?_take]
 cases e:ps[i]? with
 | none=>
  rw [if_neg (by have:=List.getElem?_eq_none_iff.mp e; omega)]
  rfl
 | some x=>
  rw [if_pos (List.getElem?_eq_some_iff.mp e).1,(h i x e).1]
  rfl
theorem gO {zs:List Str} {ps:List (Str×Str)} (hN:Names zs) (h:cg zs ps):(ps.map (·.1)).Nodup:=by
 rw [vC h]
 exact hN.1.sublist (List.take_sublist _ _)
theorem zZ:nameB (Str.ofString "")=false:=by decide +kernel
theorem Gg {zs:List Str} {ps:List (Str×Str)} (hN:Names zs) (h:cg zs ps) {z:Str} (hz:z∈ps.map (·.1)):nameB z=true:=by
 rw [vC h] at hz
 exact hN.2 z (List.mem_of_mem_take hz)
theorem vD {zs:List Str} {ps:List (Str×Str)} (hN:Names zs) (h:cg zs ps):cQ ps (Str.ofString "")=none:=by
 cases e:cQ ps (Str.ofString "") with
 | none=>rfl
 | some w=>
  have:=(di (gO hN h)).mp e
  have:=Gg hN h (List.mem_map.mpr ⟨_,this,rfl⟩)
  rw [zZ] at this
  cases this
noncomputable def Ro (f:Str→Option Str):Nat→Str→List Str
 | 0,_=>[]
 | n + 1,z=>match f z with
  | none=>[]
  | some y=>z::Ro f n y
noncomputable def up (ps:List (Str×Str)) (z:Str):List Str:=Ro (cQ ps) (ps.length + 1) z
theorem qG {f:Str→Option Str} {z:Str} (h:f z=none):∀n,Ro f n z=[]
 | 0=>rfl
 | n + 1=>by unfold Ro; rw [h]
theorem CT {f:Str→Option Str} {z y:Str} (h:f z=some y) (n:Nat):Ro f (n + 1) z=z::Ro f n y:=by
 rw [Ro,h]
theorem Iz {f:Str→Option Str}:∀n z,(Ro f n z).length≤n
 | 0,_=>Nat.le_refl 0
 | n + 1,z=>by
  cases h:f z with
  | none=>rw [qG h]; exact Nat.zero_le _
  | some y=>
   rw [CT h,List.length_cons]
   exact Nat.succ_le_succ (Iz n y)
theorem IK {zs:List Str} {ps:List (Str×Str)} (hN:Names zs) (hP:cg zs ps):∀(n i:Nat),i < n→∀x,ps[i]?=some x→Over (cQ ps) x.1 (Ro (cQ ps) n x.1)
 | 0,_,h,_,_=>absurd h (Nat.not_lt_zero _)
 | n + 1,i,h,x,hx=>by
  have e:cQ ps x.1=some x.2:=(di (gO hN hP)).mpr (List.mem_of_getElem? hx)
  rw [CT e]
  refine .step e ?_
  rcases (hP i x hx).2 with h2 | ⟨j,hj,h2⟩
  ·rw [h2,qG (vD hN hP)]
   exact .stop (vD hN hP)
  ·have hi:=(List.getElem?_eq_some_iff.mp hx).1
   have hjl:j < ps.length:=by omega
   have g:=hP j ps[j] (List.getElem?_eq_getElem hjl)
   have e2:ps[j].1=x.2:=by
    have:=g.1
    rw [h2] at this
    exact (Option.some.inj this).symm
   rw [←e2]
   exact IK hN hP n j (by omega) ps[j] (List.getElem?_eq_getElem hjl)
theorem Rp {zs:List Str} {ps:List (Str×Str)} (hN:Names zs) (hP:cg zs ps) (z:Str):Over (cQ ps) z (up ps z):=by
 unfold up
 cases e:cQ ps z with
 | none=>
  rw [qG e]
  exact .stop e
 | some w=>
  obtain ⟨i,hi,hx⟩:=List.getElem_of_mem ((di (gO hN hP)).mp e)
  have:=IK hN hP (ps.length + 1) i (by omega) _ (List.getElem?_eq_getElem hi)
  rw [hx] at this
  exact this
theorem IV {ps:List (Str×Str)} {z:Str} (h:cQ ps z=none):up ps z=[]:=qG h _
theorem V4 (ps:List (Str×Str)) (z:Str):(up ps z).length≤ps.length + 1:=Iz _ _
noncomputable def rR (l:List (Str×PyData)):List (PyData×PyData):=l.map fun p=>(.str p.1,p.2)
theorem CV:∀l:List (Str×PyData),cF d7 (rR l)=some (l.map fun p=>.inr p.1)
 | []=>rfl
 | p::l=>by
  rw [show rR (p::l)=(.str p.1,p.2)::rR l from rfl]
  unfold cF
  rw [CV l]
  simp only [d7]
  rfl
theorem z9 (x z:Str):(d7 (.str x)=some (.inr z)) ↔ x=z:=by
 simp [d7]
theorem yw (z:Str):∀l:List (Str×PyData),iT d7 (.inr z) (rR l)=(l.find? fun p=>decide (p.1=z)).map (·.2)
 | []=>rfl
 | p::l=>by
  show (if d7 (.str p.1)=some (.inr z) then some p.2 else iT d7 (.inr z) (rR l))=_
  rw [List.find?_cons]
  by_cases h:p.1=z
  ·rw [if_pos ((z9 _ _).mpr h),decide_eq_true h]
   rfl
  ·rw [if_neg (fun e=>h ((z9 _ _).mp e)),decide_eq_false h,yw z l]
theorem Kh (l:List (Str×PyData)) (z:Str):qp (rR l) (.str z)=some ((l.find? fun p=>decide (p.1=z)).map (·.2)):=by
 show (if (cF d7 (rR l)).isSome then some (iT d7 (.inr z) (rR l)) else none)=_
 rw [CV,yw]
 rfl
theorem Om {l:List (Str×PyData)} {z:Str} {d:PyData} (h:z∉l.map (·.1)):lV d7 (.inr z) (.str z) d (rR l)=rR (l++[(z,d)]):=by
 unfold lV
 rw [if_neg,rR,rR,List.map_append]
 ·rfl
 ·rw [Bool.not_eq_true,List.any_eq_false]
  intro p hp
  obtain ⟨q,hq,rfl⟩:=List.mem_map.mp hp
  have:¬(d7 (.str q.1)=some (.inr z)):=fun e=>h (List.mem_map.mpr ⟨q,hq,(z9 _ _).mp e⟩)
  simpa using this
theorem Oo {α:Type} (ps:List (Str×Str)) (g:Str×Str→α) (z:Str):((ps.map fun p=>(p.1,g p)).find? fun p=>decide (p.1=z)).map (·.2)=(ps.find? fun p=>decide (p.1=z)).map g:=by
 rw [List.find?_map,Option.map_map]
 rfl
theorem cu {α:Type} {T:n6} {ft:FT} {fe:FE} {fs:En} {C:Ce} (D:α→PyData) (p:α→Bool) (g:α→PyData):∀{l:List α},(∀a∈l,∃ts,TF T (D a)=some ts∧ft (jj ts++fs) C=some (p a,C)∧(p a=true→∃x e,fe (jj ts++fs) C=some (x,e,C)∧still x=.im (g a)))→
  cG T ft fe fs (l.map D) C=some ((l.filter p).map g,C)
 | [],_=>rfl
 | d::r,h=>by
  obtain ⟨ts,h1,h2,h3⟩:=h d List.mem_cons_self
  have ih:=cu D p g (l:=r) fun d m=>h d (List.mem_cons_of_mem _ m)
  rw [List.map_cons]
  unfold cG
  simp only [h1]
  rw [h2]
  cases hp:p d with
  | true=>
   obtain ⟨x,e,h4,h5⟩:=h3 hp
   simp only [h4,h5,ih,List.filter_cons,hp,if_true,List.map_cons]
  | false=>
   simp only [ih,List.filter_cons,hp]
   rfl
theorem Aa {l:List Int}:∀{a b:Int},l.foldl max a≤b ↔ a≤b∧∀x∈l,x≤b:=by
 induction l with
 | nil=>intro a b; simp
 | cons y l ih=>
  intro a b
  rw [List.foldl_cons,ih]
  constructor
  ·rintro ⟨h1,h2⟩
   refine ⟨by omega,fun x hx=>?_⟩
   rcases List.mem_cons.mp hx with rfl | hx
   ·omega
   ·exact h2 x hx
  ·rintro ⟨h1,h2⟩
   have:=h2 y List.mem_cons_self
   exact ⟨by omega,fun x hx=>h2 x (List.mem_cons_of_mem _ hx)⟩
theorem Kl {l:List Int} (h:∀x∈l,0≤x):maxD 0 l=l.foldl max 0:=by
 cases l with
 | nil=>rfl
 | cons x l=>
  show l.foldl max x=l.foldl max (max 0 x)
  have:=h x List.mem_cons_self
  rw [show max 0 x=x by omega]
noncomputable def tK (who:Str) (os:List Str) (day:Int) (r:dJ):Bool:=decide (r.2.1=who)&&(decide (r.2.2.2.1∈os)&&(decide (r.2.2.2.2.1≤day)&&decide (day≤r.2.2.2.2.2)))
noncomputable def jm (rk:List dJ) (who:Str) (os:List Str) (day:Int):Int:=((rk.filter (tK who os day)).map (·.2.2.1)).foldl max 0
end L2
namespace L2
open PySem PySem.Spec PyProof.Rows PySem.W
section
variable {prog:Program} {w:World} {A:Around} {E:Value→Shared→Prop} {R:Result→Shared→Prop} {s:Shared}
theorem Km {Q:Value→Shared→Prop} (h:Q (.ref s.heap.objs.size) { s with heap:=s.heap.push (jD w) }):wpAny (model prog w) A (newSet (.type "set")) Q E s:=by
 unfold newSet setsByText
 obtain ⟨h0,g0,d0,t0,o0⟩:=s
 refine wpAny_bind (wpAny_bind (wpAny_askSetting (wpAny_pure ?_)))
 dsimp only
 simp only [newObj]
 exact wpAny_bind (wpAny_alloc (wpAny_pure h))
theorem Ko {elt target iter:Expr} {ifs:List Expr} {rest:List Comprehension} {scope:Scope} {pos:Pos} {it acc:Value} {env:Env} (h0:codeAny (model prog w) A (.compLoop (.SetComp elt (⟨target,iter,ifs,0⟩::rest) scope pos) 0 it acc env) R s)
  (h:wpAny (model prog w) A (pyIter it) (fun it' s'=>codeAny (model prog w) A (.compLoop (.SetComp elt (⟨target,iter,ifs,0⟩::rest) scope pos) 0 it' acc env) R s') (notedBy (model prog w) A env fun x s'=>R (.error x) s') s):
  codeAny (model prog w) A (.compStart (.SetComp elt (⟨target,iter,ifs,0⟩::rest) scope pos) 0 it acc env) R s:=by
 refine codeAny_of_tree (show wpAny _ A ((compStart (.SetComp elt (⟨target,iter,ifs,0⟩::rest) scope pos) 0 it acc env).onRaise (fun x=>do noteFrame x env; standAt theWindowsPlace)) _ _ s from wpAny_notedAt ?_)
 unfold compStart
 refine (show wpAny _ A (ask >>= _) _ _ s from wpAny_bind (wpAny_askSetting (wpAny_ite ?_)))
 split
 ·first
   | exact wpAny_bind (wpAny_pure (wpAny_pure ⟨rfl,h0⟩))
   | exact wpAny_pure ⟨rfl,h0⟩
 ·first
   | exact wpAny_bind (wpAny_rule (wpAny_bind (wpAny_standAt (wpAny_bind (wpAny_mono h (fun it' s' h'=>wpAny_pure ⟨rfl,h'⟩) fun _ _ x=>x)))))
   | exact wpAny_bind (wpAny_rule (show wpAny _ _ (standAt iter.pos >>= _) _ _ s from wpAny_bind (wpAny_standAt (wpAny_bind (wpAny_mono h (fun it' s' h'=>wpAny_pure ⟨rfl,h'⟩) fun _ _ x=>x)))))
variable {T:Type} [DecidableEq T] {knd:PySem.KeyKind prog w T}
theorem CW {a:Addr} {k:T} {key:Value} {ks:List T} {Q:Value→Shared→Prop} (hk:knd.is k key=true) (hsc:key.scannable=true) (hS:je knd s.heap a ks) (room:ks.length + 1 < scanBound)
  (h:∀h',Heap.SameBut a s.heap h'→je knd h' a (ou ks k)→Q .none { s with heap:=h',toks:=s.toks + 1 }):wpAny (model prog w) A (call (.builtin "set.add") [.ref a,key]) Q E s:=by
 refine wpAny_call_entry F.slot_set_add hS.ty F.entry_set_add ?_ (F.args_set_add_2 _ _)
 unfold Builtin.«set.add» Builtin.Frozenset.oneOther
 simp only [List.isEmpty_nil,bind_assoc]
 unfold Builtin.Frozenset.addrOf setAdd
 refine wpAny_bind (wpAny_pure ?_)
 try dsimp only
 refine wpAny_bind (wpAny_pure ?_)
 try dsimp only
 refine wpAny_bind (wpAny_holding (wpAny_bind (knd.pyHash hk ?_)))
 refine Hj (knd:=knd) (s:={ s with toks:=s.toks + 1 }) hk hsc hS room fun _ h' hsb hS'=>?_
 exact (show wpAny _ _ (ret Value.none) _ _ _ from wpAny_pure ⟨_,rfl,h h' hsb hS'⟩)
end
theorem Ab {env:Env} (elt gens scope pos):eval (.SetComp elt gens scope pos) env=comprehension (.SetComp elt gens scope pos) scope env (firstIterPos gens pos) (newSet (.type "set")) (firstAsync gens) (firstIter gens env):=rfl
section
variable {P:Program} {w:World} {T0:Type} [DecidableEq T0] (knd:PySem.KeyKind P w T0) (mk:T0→V)
noncomputable abbrev SO (a:Addr) (ks:List T0):HO:=.ext fun h=>je knd h a ks
noncomputable def Oq (D:Addr) (te:TE):TM:=fun σ H Q=>te σ H fun y H1=>∃ks k,H1 D=some (SO knd D ks)∧y=mk k∧ks.length + 1 < scanBound∧Q (upd H1 D (SO knd D (ou ks k)))
theorem TY {H:Hp} {h:Heap} {a:Addr} {ks:List T0} (x:je knd h a ks):bW P w H h a (SO knd a ks):=
 ⟨x,let ⟨o,_,_,_,e,_⟩:=x; ⟨o,e⟩,fun _ _ y e=>y.at e⟩
noncomputable def tSC (K:PySem.W.Frag) (wi:TI) (T:n6) (ts:Bk→TT) (te:Bk→TE) (js:List Nat):TE:=fun σ H Q=>wi σ H fun J H1=>∀D,H1 D=none→∀b,Ek K T (ts b) (Oq knd mk D (te b)) (frees js σ) J (upd H1 D (SO knd D [])) (Q (.ref D))
end
section
variable {X:Cx} {T0:Type} [DecidableEq T0] {knd:PySem.KeyKind X.prog X.w T0} {mk:T0→V} {NT NF:List Str} {js:List Nat} {elt tg iter:Expr} {ifs:List Expr} {T:n6} {wi:TI} {ts:Bk→TT} {te:Bk→TE} {scope:Scope} {pos:Pos}
theorem V5 {D:Addr} {t:TE} (hk:∀k v,RelV (mk k) v→knd.is k v=true∧v.scannable=true) (he:PE X elt t):PM X (do let v ←eval elt X.env; standAt elt.pos; let _ ←call (.builtin "set.add") [.ref D,v]) (Oq knd mk D t):=by
 intro pins s σ H Q I h
 refine wpAny_bind (cU (he pins s σ H _ I h) fun v s1 aV=>?_)
 obtain ⟨y,H1,I1,r1,ks,k,hD,ey,hz,q⟩:=aV
 subst ey
 obtain ⟨hS,_,_⟩:=I1.hok D _ hD
 obtain ⟨k1,k2⟩:=hk _ _ r1
 refine wpAny_bind (wpAny_standAt (wpAny_bind (CW k1 k2 hS hz fun h' same hS'=>?_)))
 refine wpAny_pure ⟨_,?_,q⟩
 exact nF I1 (by rw [hD]; exact True.intro) same (let ⟨o,_,_,_,e,_⟩:=hS'; ⟨o,e⟩) (TY knd hS')
theorem V6 {pins:List (Addr×Obj)} {σ:St} {s2:Shared} {H2:Hp} {cl:List (Str×Addr)} {it:Addr} {fp:List Addr} {tn:Nat→Heap→Prop} {J:It} {Q:Hp→Prop} {RR:Value→Addr→Result→Shared→Prop} {E:Value→Shared→Prop}
  (hk:∀k v,RelV (mk k) v→knd.is k v=true∧v.scannable=true) (B:jU X NT NF js scope) (tk:p6 tg NT T) (hc:X.calm=true)
  (hin:∀b,Du (X.bk (NT++NF) scope b) ifs (ts b)∧PE (X.bk (NT++NF) scope b) elt (te b))
  (q2:∀n c,cl.lookup n=some c→X.env.cells.lookup n=some c) (q3:∀y∈scope.names,y.2=.free→∃c,cl.lookup y.1=some c)
  (I2:Inv X pins σ H2 s2) (TT:Turn X.prog X.w X.K tg J fp it tn) (st2:tn 0 s2.heap) (f2:∀b∈fp,iC X pins H2 b)
  (q:∀b,Ek X.K T (ts b) (Oq knd mk s2.heap.objs.size (te b)) (frees js σ) J (upd H2 s2.heap.objs.size (SO knd s2.heap.objs.size [])) Q)
  (hR:∀C H' s' m,Inv X pins σ H' s'→iC X pins H' C→s'.heap.Ns C m→Q H'→RR (.ref s2.heap.objs.size) C (.ok .next) s'):
  wpAny (model X.prog X.w) X.A (newSet (.type "set")) (fun acc s₃=>wpAny (model X.prog X.w) X.A (newFunctionEnv scope X.env.globals cl [] X.env.qual none .none (some X.env)) (fun cenv s₄=>
   codeAny (model X.prog X.w) X.A (.compStart (.SetComp elt [⟨tg,iter,ifs,0⟩] scope pos) 0 (.ref it) acc { cenv with scope:=relabel scope X.env }) (RR acc cenv.locals) s₄) E s₃) E s2:=by
 refine Km ?_
 have hD:H2 s2.heap.objs.size=none:=I2.hok.fresh (Nat.le_refl _)
 have I3:Inv X pins σ (upd H2 s2.heap.objs.size (SO knd s2.heap.objs.size [])) { s2 with heap:=s2.heap.push (jD X.w) }:=
  I2.laid (t':=s2.toks) (fun b o e=>Heap.get?_push_of_some _ e) (Nat.le_refl _) (TY knd (My (Heap.get?_push_size _ rfl)))
 have hsz:(s2.heap.push (jD X.w)).objs.size=s2.heap.objs.size + 1:=Heap.size_push ..
 refine wpAny_newFunctionEnv B.cell (by intro y hy; simp at hy) (fun h₁ hns₁ hsb₁=>?_) B.kind
 have KJ:∀b∈fp,b < s2.heap.objs.size:=fun b hb=>by
  obtain ⟨o,e,_⟩:=TT.obj 0 _ st2 b hb
  exact Heap.lt_size e
 have f3:∀b∈fp,iC X pins (upd H2 s2.heap.objs.size (SO knd s2.heap.objs.size [])) b:=fun b hb=>⟨by rw [aJ (Nat.ne_of_lt (KJ b hb))]; exact (f2 b hb).1,(f2 b hb).2⟩
 have keep:∀b o,(s2.heap.push (jD X.w)).get? b=some o→h₁.get? b=some o:=fun b o e=>hsb₁.extBut b o (Nat.ne_of_lt (Heap.lt_size e)) (Heap.get?_push_of_some _ e)
 have S9:∀b∈fp,b < (s2.heap.push (jD X.w)).objs.size:=fun b hb=>by have:=KJ b hb; rw [hsz]; exact Nat.lt_succ_of_lt this
 have I4:=I3.blk (s1:={ s2 with heap:=h₁,toks:=s2.toks + ([]:List (Str×Value)).length }) B q2 q3 f3 S9 hns₁ keep rfl I2.bare
 have Tc:tn 0 h₁:=TT.keep 0 _ _ st2 fun b _ o e=>keep b o (Heap.get?_push_of_some _ e)
 obtain ⟨i1,i2⟩:=hin ⟨cl,(s2.heap.push (jD X.w)).objs.size,{ s2 with heap:=s2.heap.push (jD X.w) },upd H2 s2.heap.objs.size (SO knd s2.heap.objs.size []),fp⟩
 have loop:codeAny (model X.prog X.w) X.A (.compLoop (.SetComp elt [⟨tg,iter,ifs,0⟩] scope pos) 0 (.ref it) (.ref s2.heap.objs.size) (compEnvC scope cl (s2.heap.push (jD X.w)).objs.size X.env))
   (RR (.ref s2.heap.objs.size) (s2.heap.push (jD X.w)).objs.size) { s2 with heap:=h₁,toks:=s2.toks + ([]:List (Str×Value)).length }:=by
  refine uD (X:=X.blk (NT++NF) scope cl (s2.heap.push (jD X.w)).objs.size { s2 with heap:=s2.heap.push (jD X.w) } (upd H2 s2.heap.objs.size (SO knd s2.heap.objs.size [])) fp)
   (T:=T) (fs:=frees js σ) (done:=Q) rfl (JK elt tg iter ifs scope pos _ _ _) rfl rfl rfl tk rfl B.nd hc (fun x hx=>lookup_relabel_local (B.tg x hx)) i1 (V5 (X:=X.bk (NT++NF) scope _) (knd:=knd) hk i2) TT (fun b hb=>?_) I4 Tc (q _) fun H' s' σ' J' qd=>?_
  ·exact ⟨(f3 b hb).1,Nat.ne_of_lt (S9 b hb),fun hb2=>by
    rcases List.mem_cons.mp (I3.qU b hb2) with z | z
    ·exact (f3 b hb).2.1 z
    ·exact (f3 b hb).2.2.1 z,.inl hb,fun x c e=>(f3 b hb).2.2.2.2.1 x c (q2 x c e),fun p hp=>(nomatch (show p∈([]:List (Addr×Obj)) from hp))⟩
  ·obtain ⟨m,hn,_⟩:=J'.loc
   exact hR _ H' s' m (I3.LQ f3 J') (I3.yU (Nat.le_refl _) J'.free) hn qd
 exact Ko loop (TT.self _ 0 _ _ _ Tc loop)
theorem Yk (hk:∀k v,RelV (mk k) v→knd.is k v=true∧v.scannable=true) (B:jU X NT NF js scope) (tk:p6 tg NT T) (hc:X.calm=true) (hi:PI X tg iter wi)
  (hin:∀b,Du (X.bk (NT++NF) scope b) ifs (ts b)∧PE (X.bk (NT++NF) scope b) elt (te b))
  (hs:∀x,foldedSetIterable iter X.env x=pure x:=by intro _; rfl):PE X (.SetComp elt [⟨tg,iter,ifs,0⟩] scope pos) (tSC knd mk X.K wi T ts te js):=by
 intro pins s σ H Q I h
 obtain ⟨cl,hclos,q2,q3⟩:=j5 (env:=X.env) (scope:=scope) fun y hy e=>I.ok.has y.1 (B.free y hy e)
 rw [Ab]
 refine wpAny_comprehension_free (use:=none) rfl hs hclos B.kind B.names (cU (hi pins s σ H _ I h) fun v s1 h1=>cU h1 fun itv s2 aV=>?_)
 obtain ⟨it,fp,tn,J,H2,e,I2,TT,st2,f2,q⟩:=aV
 subst e
 refine V6 (Q:=fun H'=>Q (.ref s2.heap.objs.size) H') (RR:=fun acc C=>compPost (model X.prog X.w) X.A X.xe none (EP X pins σ Q) acc C) hk B tk hc hin q2 q3 I2 TT st2 f2 (q _ (I2.hok.fresh (Nat.le_refl _))) fun C H' s' m I' fC hn qd=>?_
 refine ⟨m,hn,fun h' sb=>⟨.ref s2.heap.objs.size,H',?_,rfl,qd⟩⟩
 exact I'.turned (t':=s'.toks) (fun b o hb e=>(sb.2 b hb).trans e) fC.1 fC.2.1 fC.2.2.2.1 fC.2.2.2.2.1 fC.2.2.2.2.2
end
noncomputable def Ot {P:Program} {w:World} (t:TE):TE:=fun σ H Q=>t σ H fun x H2=>∃D ks,x=.ref D∧H2 D=some (SO (PySem.strKind P w) D ks)∧ks.length < 64∧∀(D':Addr) (ns':List Str),H2 D'=none→ns'.Perm ks→sortedS ns'=true→Q (.ref D') (upd H2 D' (.lst (ns'.map V.str)))
theorem Ou {X:Cx} {e:Expr} {t:TE} {p1 pos1:Pos} (hc:X.calm=true) (hl:PE X e t) (g1:Gl X "sorted") (m1:X.mg "sorted"=none)
  (he:starEach [e] X.env=(false,eval e X.env)::starEach [] X.env:=by rfl) (hpl:(backTo pos1 (starEach [] X.env)).any (·.1)=false:=by rfl):PE X (.Call (.Name "sorted" p1) [e] [] pos1) (Ot (P:=X.prog) (w:=X.w) t):=by
 intro pins s σ H Q I h
 refine wpAny_Call_Name_kw (jy I g1 m1 (u:=.builtin "sorted") rfl (PyProof.Rows.callWith_builtin1 ?_ he hpl))
 rw [he]
 show wpAny _ _ (spliced ((false,eval e X.env)::backTo pos1 (starEach [] X.env))) _ _ s
 refine Calls.spliced_cons (cU (hl pins s σ H _ I h) fun v s1 ⟨y,H1,I1,r1,D,ks,ey,hD,h64,q⟩=>Calls.spliced_nil ?_)
 subst ey
 cases r1
 obtain ⟨⟨o,es,ep,t,ho,ex,hd,⟨ks',ek,pk⟩,hb,hf,tb⟩,_,_⟩:=I1.hok D _ hD
 obtain ⟨e1,e2⟩:=Bt ek
 have few:es.size < 64:=by
  rw [←Array.length_toList,ek.len,pk.length_eq]
  omega
 refine uP (Ok:=fun out=>∃ns',StrsAre out ns'∧ns'.Perm ks∧sortedS ns'=true) (I1.ok.hd hc) ⟨o,ho,ex,hd,hf,tb⟩ few (fun us pm B s2 a n P E' ho' hp=>?_) fun D h' d tk c out ok ge kk gD=>?_
 ·have hS:StrsAre us (us.map strOf):=strsAre_map us fun v hv=>e2 v (pm.mem_iff.mp hv)
  refine list_sort_treeK strKind_oneLt ho' hS.keysOf (fun v1 v2 rest e=>keyKind_strs (by rw [←e]; exact hS)) (by rw [pm.length_eq,List.length_map,Array.length_toList]; exact few) fun st hp1 hp2=>?_
  obtain ⟨ss',b1,b2,b3⟩:=sorted_out_str hS hp1 hp2
  exact hp _ ⟨ss',b1,b2.trans ((pm.map strOf).trans (by rw [e1]; exact pk)),b3⟩
 ·obtain ⟨ns',a1,a2,a3⟩:=ok
  have hz:ns'.length≤sizeLine:=by
   rw [a2.length_eq,sizeLine_eq]
   omega
  exact ⟨.ref D,_,(I1.laid (o:=.lst (ns'.map V.str)) (t':=tk) kk ge ⟨by rw [List.length_map]; exact hz,out.toList,c,nG a1,by simpa [seqObj] using gD⟩).drew d,rfl,q D ns' (I1.hok.fresh ge) a2 a3⟩
end L2
namespace L2
open PySem PySem.Spec PyProof.Rows PySem.W
noncomputable def Yl (fi:FI) (T:n6) (ft:FT) (fe:FE) (js:List Nat):FE:=fun env C=>match fi env C with
 | some (its,e1,C1)=>match cG T ft fe (frB js e1) its C1 with
  | some (ys,C2)=>match gM ys with
   | some l=>some (.ow (.list l),env,C2)
   | none=>none
  | none=>none
 | none=>none
theorem Rq {P:Program} {w:World} {K:PySem.W.Frag} {fi:FI} {T:n6} {ft:FT} {fe:FE} {js:List Nat}:∀σ H Q,tE K (Yl fi T ft fe js) σ H Q→Ot (P:=P) (w:=w) (tSC (PySem.strKind P w) V.str K (tI K true fi) T (fun _=>lX K ft) (fun _=>tE K fe) js) σ H Q:=by
 rintro σ H Q ⟨Z,Θ,env,C,res,env',C',S,hf,q⟩
 unfold Yl at hf
 split at hf
 case h_2=>cases hf
 rename_i its e1 C1 h1
 split at hf
 case h_2=>cases hf
 rename_i ys C2 h2
 split at hf
 case h_2=>cases hf
 rename_i l hs
 cases hf
 unfold gM at hs
 split at hs
 case isFalse=>cases hs
 rename_i hl
 split at hs
 case h_2=>cases hs
 rename_i ns hns
 cases hs
 have hys:=qC hns
 subst hys
 rw [List.length_map] at hl
 refine ⟨Z,Θ,env,C,its,e1,C1,S,h1,fun J H1 k1 f1 S1 it D hD b=>?_⟩
 have Py:=S1.fz (mQ js e1)
 have it':wZ (aK Z Θ e1 σ) Θ H1 J its:=it
 let PB:=aK (kj D Z (nQ js e1) σ) Θ [] []
 have Ck:∀a,a∈PB ↔ a=D∨a∈aK Z Θ (nQ js e1) σ:=fun a=>eV (js:=js) rfl
 refine ⟨fun i m H2=>m=its.length - i∧i≤its.length∧∃(acc rest:List Str) (C2:Ce),bF Θ H1 H2∧eY Θ C2 H2∧H2 D=some (SO (PySem.strKind P w) D (dedup acc))∧cG T ft fe (frB js e1) (its.drop i) C2=some (rest.map .str,C')∧acc++rest=ns,
  ⟨its.length,rfl,Nat.zero_le _,[],ns,C1,bF.upd hD,⟨S1.cell.len,fun n b ns e2 e3=>?_⟩,aH,h2,rfl⟩,?_⟩
 ·have:=S1.cell.at_ n b ns e2 e3
  rw [aJ (bB this hD)]
  exact this
 rintro i m H2 ⟨rfl,hi,acc,rest,Ci,ki,ci,hDi,hc,ea⟩
 have X7:aU (er (aK Z Θ e1 σ) H1) (er PB H2):=fD ki S1.Hu fun b m=>by
  rcases (Ck b).mp m with rfl | m
  ·exact .inr hD
  ·exact .inl ((mQ js e1).sub b m)
 have X8:Sm K (kj D Z (nQ js e1) σ) Θ (jj []++frB js e1) Ci (([]:List V).map some++frees js σ) H2:=Py.blk hD ki ⟨_,hDi,fun _ z=>nomatch z⟩ ci (show d8 _ [] [] from rfl)
 have NK:∀a∈PB,H2 a≠none:=fun a m=>by
  have:=X8.zy a ((eV (js:=js) (kh (env:=jj []++frB js e1) pA)).mpr ((Ck a).mp m))
  exact this
 obtain ⟨VJ,VL⟩:=it' i H2 PB X7 (zA ki) NK
 have few:acc.length + rest.length < 64:=by
  rw [←List.length_append,ea]
  exact hl
 have adk:=iK acc
 cases hd:its[i]? with
 | none=>
  have hi2:i=its.length:=by
   have:=List.getElem?_eq_none_iff.mp hd
   omega
  rw [hi2,List.drop_length] at hc
  have hr:rest=[]:=by
   cases rest with
   | nil=>rfl
   | cons x r=>cases hc
  subst hr
  cases hc
  rw [List.append_nil] at ea
  subst ea
  refine .inl ⟨VL hi2,D,dedup acc,rfl,hDi,by omega,fun D' ns' hn p hp=>?_⟩
  have kk:=k1.trans ki
  rw [FP p hp]
  exact q _ _ (kk.trans (bF.upd hn)) (Fz.refl _) ((dY (S.go kk ci) (qg _) hn).from kk)
 | some d=>
  have hlt:i < its.length:=(List.getElem?_eq_some_iff.mp hd).1
  have ed:its.drop i=d::its.drop (i + 1):=by
   rw [List.drop_eq_getElem_cons hlt]
   obtain ⟨_,e⟩:=List.getElem?_eq_some_iff.mp hd
   rw [e]
  rw [ed] at hc
  unfold cG at hc
  obtain ⟨go,yl⟩:=VJ d hd
  refine .inr ⟨go,fun x H3 y=>?_⟩
  obtain ⟨s3,r3⟩:=yl x H3 y
  split at hc
  case h_2=>cases hc
  rename_i ts ht
  obtain ⟨vs,tv,rvs⟩:=NB (K:=K) ht r3 (tB _ _)
  refine ⟨vs,tv,?_⟩
  have k3:bF Θ H1 H3:=ki.trans (bF.of s3)
  have Ka:H3 D=some (SO (PySem.strKind P w) D (dedup acc)):=s3 _ _ hDi
  have c3:eY Θ Ci H3:=⟨ci.len,fun n b ns e2 e3=>s3 _ _ (ci.at_ n b ns e2 e3)⟩
  have SB:Sm K (kj D Z (nQ js e1) σ) Θ (jj ts++frB js e1) Ci (vs.map some++frees js σ) H3:=Py.blk hD k3 ⟨_,Ka,fun _ z=>nomatch z⟩ c3 rvs
  have xg:D∉Θ:=fun m=>(S1.cell.dom D m).ne hD
  split at hc
  ·rename_i Ct NP
   refine ⟨_,Θ,_,Ci,false,Ct,SB,NP,fun H4 k4 S4=>wN ⟨its.length - (i + 1),by omega,rfl,hlt,acc,rest,Ct,k3.trans k4,S4.cell,k4.keep _ _ Ka xg,hc,ea⟩⟩
  ·rename_i Ct NP
   split at hc
   case h_2=>cases hc
   rename_i xr eB CB hfe
   split at hc
   case h_2=>cases hc
   rename_i yd Yb
   split at hc
   case h_2=>cases hc
   rename_i zs Cz hzs
   cases rest with
   | nil=>cases hc
   | cons z rest=>
    have hc':yd::zs=PyData.str z::rest.map .str∧Cz=C':=by
     injection hc with hc
     injection hc with hc1 hc2
     exact ⟨hc1,hc2⟩
    obtain ⟨hc1,hc2⟩:=hc'
    injection hc1 with hc1 hc3
    subst hc1 hc2 hc3
    refine ⟨_,Θ,_,Ci,true,Ct,SB,NP,fun H4 k4 S4=>wO ⟨_,Θ,_,Ct,xr,eB,CB,S4,hfe,fun y H5 k5 f5 R5=>?_⟩⟩
    obtain ⟨S5,r5⟩:=R5.qw Yb
    have Yc:=k5.keep _ _ (k4.keep _ _ Ka xg) xg
    rw [List.length_cons] at few
    refine ⟨dedup acc,z,Yc,r5,by unfold scanBound; omega,its.length - (i + 1),by omega,rfl,hlt,acc++[z],rest,CB,?_,?_,by rw [uO]; exact aH,hzs,by rw [←ea,List.append_assoc]; rfl⟩
    ·have kk:=(k3.trans k4).trans k5
     refine ⟨fun a o ha na=>?_,fun a ha=>?_⟩
     ·rw [aJ (bB ha hD)]
      exact kk.keep _ _ ha na
     ·by_cases z:a=D
      ·subst z; rw [aH]; exact Option.some_ne_none _
      ·rw [aJ z]; exact kk.dom a ha
    ·refine ⟨S5.cell.len,fun n b ns e2 e3=>?_⟩
     rw [aJ]
     ·exact S5.cell.at_ n b ns e2 e3
     ·intro z
      subst z
      exact xg (List.mem_of_getElem? e2)
  ·cases hc
theorem Ym {X:Cx} {NT NF:List Str} {js:List Nat} {elt tg iter:Expr} {ifs:List Expr} {T:n6} {fi:FI} {ft:FT} {fe:FE} {scope:Scope} {pos p1 pos1:Pos} (B:jU X NT NF js scope) (tk:p6 tg NT T) (hc:X.calm=true) (g1:Gl X "sorted") (m1:X.mg "sorted"=none) (hi:PI X tg iter (tI X.K true fi))
  (hin:∀b,Du (X.bk (NT++NF) scope b) ifs (lX X.K ft)∧PE (X.bk (NT++NF) scope b) elt (tE X.K fe))
  (hs:∀x,foldedSetIterable iter X.env x=pure x:=by intro _; rfl)
  (he:starEach [.SetComp elt [⟨tg,iter,ifs,0⟩] scope pos] X.env=(false,eval (.SetComp elt [⟨tg,iter,ifs,0⟩] scope pos) X.env)::starEach [] X.env:=by rfl) (hpl:(backTo pos1 (starEach [] X.env)).any (·.1)=false:=by rfl):
  PE X (.Call (.Name "sorted" p1) [.SetComp elt [⟨tg,iter,ifs,0⟩] scope pos] [] pos1) (tE X.K (Yl fi T ft fe js)):=
 (Ou hc (Yk (knd:=PySem.strKind X.prog X.w) (mk:=V.str) (fun k v r=>by obtain ⟨t,rfl⟩:=r; exact ⟨PySem.strKind_is _ _ _ _,rfl⟩) B tk hc hi hin hs) g1 m1 he hpl).weak Rq
end L2
namespace L2
open PySem PySem.Spec PyProof.Rows PySem.W
section
variable {X:Cx} {tg:Expr}
end
end L2
namespace L2
open PySem PySem.Spec PyProof.Rows PySem.W
theorem a_t0 {α:Type} (x:α) (r:List α):jB (x::r) 0=some x:=iD (j:=0) rfl
theorem a_t1 {α:Type} (a x:α) (r:List α):jB (a::x::r) 1=some x:=iD (j:=1) rfl
theorem a_t2 {α:Type} (a b x:α) (r:List α):jB (a::b::x::r) 2=some x:=iD (j:=2) rfl
theorem a_t3 {α:Type} (a b c x:α) (r:List α):jB (a::b::c::x::r) 3=some x:=iD (j:=3) rfl
theorem a_t4 {α:Type} (a b c d x:α) (r:List α):jB (a::b::c::d::x::r) 4=some x:=iD (j:=4) rfl
theorem a_t5 {α:Type} (a b c d e x:α) (r:List α):jB (a::b::c::d::e::x::r) 5=some x:=iD (j:=5) rfl
theorem a_t6 {α:Type} (a b c d e f x:α) (r:List α):jB (a::b::c::d::e::f::x::r) 6=some x:=iD (j:=6) rfl
theorem e_bin (op:PyData→PyData→Option Vl) (fa fb:FB) (env:En) (C:Ce):aG op fa fb env C=(fa env C).bind fun p=>(fb p.2.1 p.2.2).bind fun q=>(op p.1 q.1).bind fun r=>some (r,rst r env q.2.1,q.2.2):=by
 unfold aG
 rcases h:fa env C with _ | ⟨x,e1,C1⟩
 ·rfl
 ·rcases h2:fb e1 C1 with _ | ⟨y,e2,C2⟩
  ·simp only [Option.bind_some,h2]; rfl
  ·simp only [Option.bind_some,h2]
   cases op x y <;> rfl
theorem e_dat (f:FE) (env:En) (C:Ce):aB f env C=(f env C).bind fun p=>(dat p.1).map fun d=>(d,p.2.1,p.2.2):=by
 unfold aB
 rcases h:f env C with _ | ⟨x,e1,C1⟩ <;> rfl
theorem e_bv (i:Nat) (env:En) (C:Ce):aF i env C=(env[i]?).bind fun o=>o.bind fun x=>(dat x).map fun d=>(d,env,C):=by
 unfold aF
 rcases env[i]? with _ | (_ | x) <;> rfl
theorem e_and (f g:FT) (env:En) (C:Ce):qt f g env C=(f env C).bind fun p=>if p.1 then g env p.2 else some (false,p.2):=by
 unfold qt
 rcases h:f env C with _ | ⟨_ | _,D⟩ <;> rfl
theorem e_or (f g:FT) (env:En) (C:Ce):Ff f g env C=(f env C).bind fun p=>if p.1 then some (true,p.2) else g env p.2:=by
 unfold Ff
 rcases h:f env C with _ | ⟨_ | _,D⟩ <;> rfl
theorem e_not (f:FT) (env:En) (C:Ce):oH f env C=(f env C).map fun p=>(!p.1,p.2):=by
 unfold oH
 rcases h:f env C with _ | ⟨b,D⟩ <;> rfl
theorem e_if (c:FT) (f g:FS) (env:En) (C:Ce):jg c f g env C=(c env C).bind fun p=>if p.1 then f env p.2 else g env p.2:=by
 unfold jg
 rcases h:c env C with _ | ⟨_ | _,D⟩ <;> rfl
theorem e_ifv (c:FT) (f g:FE) (env:En) (C:Ce):J7 c f g env C=(c env C).bind fun p=>if p.1 then f env p.2 else g env p.2:=by
 unfold J7
 rcases h:c env C with _ | ⟨_ | _,D⟩ <;> rfl
theorem T3 (op op':PyData→PyData→Option Vl) (fa fb fc:FB) {env e1 e2 e3:En} {C C1 C2:Ce} {x y z:PyData} {a b:Bool} (h1:fa env C=some (x,e1,C1)) (h2:fb e1 C1=some (y,e2,C2)) (h3:op x y=some (.im (.bool a))) (h4:fc e2 C2=some (z,e3,C2)) (h5:op' y z=some (.im (.bool b))):Fi op op' fa fb fc env C=some (.im (.bool (a&&b)),env,C2):=by
 unfold Fi
 simp only [h1,h2,h3]
 cases a with
 | false=>rfl
 | true=>simp only [h4,h5]; rfl
theorem r_ow (d:PyData) (e f:En):rst (.ow d) e f=f:=rfl
theorem r_bool (b:Bool) (e f:En):rst (.im (.bool b)) e f=e:=rfl
theorem r_int (i:Int) (e f:En):rst (.im (.int i)) e f=e:=rfl
theorem r_str (z:Str) (e f:En):rst (.im (.str z)) e f=e:=rfl
theorem r_tl (l r:List PyData) (e f:En):rst (.im (.tuple (.list l::r))) e f=f:=rfl
theorem add_int (i j:Int):bf (.int i) (.int j)=some (.im (.int (i + j))):=rfl
theorem sub_int (i j:Int):yg (.int i) (.int j)=some (.im (.int (i - j))):=rfl
theorem le_int (i j:Int):wX (.int i) (.int j)=some (.im (.bool (decide (i≤j)))):=rfl
theorem lt_int (i j:Int):Fd (.int i) (.int j)=some (.im (.bool (decide (i < j)))):=rfl
theorem ge_int (i j:Int):M5 (.int i) (.int j)=some (.im (.bool (decide (j≤i)))):=rfl
theorem gt_int (i j:Int):QV (.int i) (.int j)=some (.im (.bool (decide (j < i)))):=rfl
theorem eq_int (i j:Int):o7 (.int i) (.int j)=some (.im (.bool (i==j))):=rfl
theorem eq_bool (a b:Bool):o7 (.bool a) (.bool b)=some (.im (.bool (a==b))):=rfl
theorem ne_bool (a b:Bool):t6 (.bool a) (.bool b)=some (.im (.bool (!(a==b)))):=rfl
theorem ne_int (i j:Int):t6 (.int i) (.int j)=some (.im (.bool (!(i==j)))):=rfl
theorem len_l (ds:List PyData):jX [.list ds]=some (.im (.int ds.length)):=rfl
theorem len_t (ds:List PyData):jX [.tuple ds]=some (.im (.int ds.length)):=rfl
theorem ix_t (ds:List PyData) (i:Int):bz (.tuple ds) (.int i)=(jB ds i).map .im:=rfl
theorem ix_l (ds:List PyData) (i:Int):bz (.list ds) (.int i)=(jB ds i).map .im:=rfl
theorem add_l {xs ys:List PyData} (h:xs.length + ys.length≤1000000):bf (.list xs) (.list ys)=some (.ow (.list (xs++ys))):=if_pos h
theorem Yn {xs ys:List PyData} (h:xs.length + ys.length≤1000000):bf (.tuple xs) (.tuple ys)=some (.im (.tuple (xs++ys))):=by
 unfold bf
 cases xs with
 | nil=>rfl
 | cons x xs=>exact if_pos h
theorem oN {ds:List PyData} {i:Nat} {d:PyData} (h:ds[i]?=some d):bz (.tuple ds) (.int i)=some (.im d):=by
 simp only [bz,Px,iD h,Option.map_some]
theorem h_ix0 (h:dh):bz (bG h) (.int 0)=some (.im (.tuple (h.ps.map cI))):=oN (i:=0) rfl
theorem h_ix1 (h:dh):bz (bG h) (.int 1)=some (.im (.tuple (h.bw.map cZ))):=oN (i:=1) rfl
theorem h_ix2 (h:dh):bz (bG h) (.int 2)=some (.im (.tuple (h.leaves.map kJ))):=oN (i:=2) rfl
theorem h_ix3 (h:dh):bz (bG h) (.int 3)=some (.im (.tuple (h.rules.map jb))):=oN (i:=3) rfl
theorem k_ix0 (r:dJ):bz (cZ r) (.int 0)=some (.im (.int r.1)):=oN (i:=0) rfl
theorem k_ix1 (r:dJ):bz (cZ r) (.int 1)=some (.im (.str r.2.1)):=oN (i:=1) rfl
theorem k_ix2 (r:dJ):bz (cZ r) (.int 2)=some (.im (.int r.2.2.1)):=oN (i:=2) rfl
theorem k_ix3 (r:dJ):bz (cZ r) (.int 3)=some (.im (.str r.2.2.2.1)):=oN (i:=3) rfl
theorem k_ix4 (r:dJ):bz (cZ r) (.int 4)=some (.im (.int r.2.2.2.2.1)):=oN (i:=4) rfl
theorem k_ix5 (r:dJ):bz (cZ r) (.int 5)=some (.im (.int r.2.2.2.2.2)):=oN (i:=5) rfl
theorem Gh {α:Type} {m:Int} (h0:-1000000≤m) (h1:m≤1000000) (a b:α):(if -(2 ^ 62)≤m∧m < 2 ^ 62 then a else b)=a:=if_pos (by omega)
theorem dG {k n:Nat} {body:FS} {xs:List Vl} {C C1:Ce} {r:Vl} (en:En) (hk:xs.length=k) (he:xs.map some++List.replicate (n - xs.length) none=en) (h:(body en C).map (fun p=>(p.1,p.2.2))=some (.rt r,C1)) (hr:Cm C.length r=true) (hC:C1.length=C.length):fN k n body xs C=some (r,C1):=by
 unfold fN
 rw [if_pos hk,he]
 cases hb:body en C with
 | none=>rw [hb] at h; cases h
 | some p=>
  rw [hb] at h
  obtain ⟨fl,e1,C2⟩:=p
  have h:(fl,C2)=(Fl.rt r,C1):=Option.some.inj h
  injection h with h1 h2
  subst h1 h2
  simp only [hr,if_true,CJ hC]
end L2
namespace L2
open PySem PySem.Spec PyProof.Rows PySem.W
theorem letters (k:Int) (h0:0≤k) (h1:k < 26):Px (.str abc) (.int k)=some (.str ⟨#[97 + k.toNat]⟩):=by
 have e:=V2 h0 h1
 have hl:abc.length≤LIM:=by decide +kernel
 simp only [Px]
 rw [if_pos hl,e]
 rfl
theorem pG:∀zs:List Str,strsOf (zs.map PyData.str)=some zs
 | []=>rfl
 | z::zs=>by
  show (match strsOf (zs.map PyData.str) with | some t=>some (z::t) | none=>none)=_
  rw [pG zs]
theorem kO:∀ns:List Int,intsOf (ns.map PyData.int)=some ns
 | []=>rfl
 | n::ns=>by
  show (match intsOf (ns.map PyData.int) with | some t=>some (n::t) | none=>none)=_
  rw [kO ns]
theorem Ov:abc.cps.toList=(List.range 26).map (97 + ·):=by decide +kernel
theorem yx:chars abc=(List.range 26).map fun i=>.str ⟨#[97 + i]⟩:=by
 unfold chars
 rw [Ov,List.map_map]
 rfl
theorem noLs_strs:∀zs:List Str,fW (zs.map PyData.str)=true
 | []=>rfl
 | z::zs=>by
  show (true&&fW (zs.map PyData.str))=true
  rw [noLs_strs zs]
  rfl
theorem vG:∀cs:List Nat,fW (cs.map fun c=>PyData.str ⟨#[c]⟩)=true
 | []=>rfl
 | c::cs=>by
  show (true&&fW (cs.map fun c=>PyData.str ⟨#[c]⟩))=true
  rw [vG cs]
  rfl
theorem qH:∀cs:List Nat,strsOf (cs.map fun c=>PyData.str ⟨#[c]⟩)=some (cs.map fun c=>(⟨#[c]⟩:Str))
 | []=>rfl
 | c::cs=>by
  show (match strsOf (cs.map fun c=>PyData.str ⟨#[c]⟩) with | some t=>some (_::t) | none=>none)=_
  rw [qH cs]
  rfl
theorem Kq:(Str.ofString "").length=0:=by decide +kernel
theorem ne_nil (zs:List Str) (hz:∀z∈zs,nameB z=true):t6 (.list (zs.map .str)) (.list [])=some (.im (.bool (!zs.isEmpty))):=by
 have s1:PySem.SeqAt.shaped (.list (zs.map PyData.str))=true:=CQ fun z m=>vA (hz z m)
 have n1:J4 (.list (zs.map PyData.str))=true:=(vB fun z m=>vA (hz z m)).2.2
 have e:Vr (.list (zs.map .str)) (.list [])=some zs.isEmpty:=by
  show (if J4 (.list (zs.map PyData.str))&&J4 (.list [])&&(PySem.SeqAt.shaped (.list (zs.map PyData.str))&&PySem.SeqAt.shaped (.list [])) then some (PyData.eqv (.list (zs.map .str)) (.list [])) else none)=_
  rw [n1,s1]
  cases zs <;> rfl
 simp only [t6,e,Option.map_some]
theorem Rr {zs:List Str} {k:Int} (h0:0≤k) (h1:k < zs.length):∃z,z∈zs∧zs[k.toNat]?=some z∧bz (.list (zs.map .str)) (.int k)=some (.im (.str z)):=by
 obtain ⟨x,e1,e2⟩:=FZ (xs:=zs.map PyData.str) h0 (by rw [List.length_map]; exact h1)
 rw [List.getElem?_map] at e2
 cases hz:zs[k.toNat]? with
 | none=>rw [hz] at e2; cases e2
 | some z=>
  rw [hz] at e2
  cases e2
  refine ⟨z,List.mem_of_getElem? hz,rfl,?_⟩
  simp only [bz,Px,e1,Option.map_some]
theorem Rt {d:PyData} {r:List PyData}:bz (.tuple (d::r)) (.int 0)=some (.im d):=by
 have:jB (d::r) (0:Int)=some d:=iD (j:=0) rfl
 simp only [bz,Px,this,Option.map_some]
theorem rT {fe:FE} {C:Ce} {ps:List (Str×Str)} (he:fe=aG bz (aF 0) (aB (fCst (.int 0)))):cG .one dN fe [] (ps.map cI) C=some ((ps.map (·.1)).map .str,C):=by
 subst he
 rw [pC (fun _=>true) (fun d=>match d with | .tuple (x::_)=>x | _=>.none) fun d hd=>?_]
 ·rw [List.filter_eq_self.mpr fun _ _=>rfl,List.map_map,List.map_map]
  rfl
 ·obtain ⟨p,_,rfl⟩:=List.mem_map.mp hd
  exact ⟨_,rfl,rfl,fun _=>⟨.im (.str p.1),_,V1 (x:=cI p) (e1:=[some (.im (cI p))]) (e2:=[some (.im (cI p))]) rfl (V0 rfl rfl) Rt,rfl⟩⟩
noncomputable abbrev Gi (b:Nat) (zs:List Str) (ps:List (Str×Str)) (own:List Str) (rk:List dJ) (lv:List pD) (ru:List (PyData×PyData)) (v7 v8 v9 v10 v11 jO j0 fM fO jc KN IW:Option Vl):En:=
 [some (.ce b),some (.im (.list (zs.map .str))),some (.ow (.list (ps.map cI))),some (.ow (.list (own.map .str))),some (.ow (.list (rk.map cZ))),some (.ow (.list (lv.map kJ))),some (.ow (.dict ru)),v7,v8,v9,v10,v11,jO,j0,fM,fO,jc,KN,IW]
noncomputable def gb (p:Str) (s:Int):PyData:=.tuple [.str p,.int s]
noncomputable def cH (rs:List cY):List (PyData×PyData):=rs.map fun r=>(gb r.1 r.2.1,dR r.2.2)
noncomputable def tL (p:Str) (s:Int) (q:cY):Bool:=decide (q.1=p∧q.2.1=s)
noncomputable def CZ (rs:List cY) (p:Str) (s:Int) (ss:List oK):List cY:=if rs.any (tL p s) then rs.map (fun q=>if tL p s q then (q.1,q.2.1,ss) else q) else rs++[(p,s,ss)]
theorem uo (p:Str) (s:Int):cW (gb p s)=some [.inr p,.inl s]:=rfl
theorem Ac:∀rs:List cY,cF cW (cH rs)=some (rs.map fun r=>[.inr r.1,.inl r.2.1])
 | []=>rfl
 | r::rs=>by
  rw [show cH (r::rs)=(gb r.1 r.2.1,dR r.2.2)::cH rs from rfl]
  unfold cF
  rw [Ac rs]
  simp only [uo]
  rfl
theorem I9 (p:Str) (s:Int) (q:cY):decide (cW (gb q.1 q.2.1)=some [.inr p,.inl s])=tL p s q:=by
 rw [uo,Bool.eq_iff_iff]
 unfold tL
 simp
theorem V7 (rs:List cY) (p:Str) (s:Int) (ss:List oK):putD (cH rs) (gb p s) (dR ss)=some (cH (CZ rs p s ss)):=by
 have h:putD (cH rs) (gb p s) (dR ss)=some (lV cW [.inr p,.inl s] (gb p s) (dR ss) (cH rs)):=by
  show (if (cF cW (cH rs)).isSome then some (lV cW [.inr p,.inl s] (gb p s) (dR ss) (cH rs)) else none)=_
  rw [Ac]
  rfl
 rw [h]
 congr 1
 unfold lV CZ
 have ha:((cH rs).any fun q=>decide (cW q.1=some [.inr p,.inl s]))=rs.any (tL p s):=by
  unfold cH
  rw [List.any_map]
  congr 1
  funext q
  exact I9 p s q
 rw [ha]
 cases hb:rs.any (tL p s) with
 | true=>
  rw [if_pos rfl,if_pos rfl]
  unfold cH
  rw [List.map_map,List.map_map]
  congr 1
  funext q
  show (if cW (gb q.1 q.2.1)=some [.inr p,.inl s] then (gb q.1 q.2.1,dR ss) else (gb q.1 q.2.1,dR q.2.2))=_
  have:=I9 p s q
  cases hs:tL p s q with
  | true=>
   rw [hs] at this
   rw [if_pos (of_decide_eq_true this)]
   simp [hs]
  | false=>
   rw [hs] at this
   rw [if_neg (of_decide_eq_false this)]
   simp [hs]
 | false=>
  rw [if_neg (by decide),if_neg (by decide)]
  unfold cH
  rw [List.map_append]
  rfl
noncomputable abbrev KQ (r:cY):Str×Int:=(r.1,r.2.1)
theorem Ru {own:List Str} {rs:List cY} {p:Str} {s:Int} {ss:List oK} (h:∀r∈rs,pF own r) (hr:pF own (p,s,ss)) (nd:(rs.map KQ).Nodup):(∀r∈CZ rs p s ss,pF own r)∧((CZ rs p s ss).map KQ).Nodup∧(CZ rs p s ss).length≤rs.length + 1:=by
 unfold CZ
 split
 ·refine ⟨fun r m=>?_,?_,by rw [List.length_map]; omega⟩
  ·obtain ⟨q,hq,rfl⟩:=List.mem_map.mp m
   split
   ·rename_i hs
    have e:q.1=p∧q.2.1=s:=of_decide_eq_true hs
    have:=h q hq
    exact ⟨this.part,this.sum,hr.many,hr.seats⟩
   ·exact h q hq
  ·rw [List.map_map]
   have:(KQ ∘ fun q:cY=>if tL p s q=true then (q.1,q.2.1,ss) else q)=KQ:=by
    funext q
    show KQ (if _ then _ else _)=_
    split <;> rfl
   rw [this]
   exact nd
 ·rename_i hn
  refine ⟨fun r m=>?_,?_,by simp⟩
  ·rcases List.mem_append.mp m with m | m
   ·exact h r m
   ·rw [List.mem_singleton.mp m]; exact hr
  ·rw [List.map_append,List.nodup_append]
   refine ⟨nd,by simp,fun x hx y hy e=>?_⟩
   have hy':y=(p,s):=List.mem_singleton.mp hy
   subst e
   obtain ⟨q,hq,hqe⟩:=List.mem_map.mp hx
   refine hn (List.any_eq_true.mpr ⟨q,hq,?_⟩)
   rw [hy'] at hqe
   have h1:q.1=p:=congrArg Prod.fst hqe
   have h2:q.2.1=s:=congrArg Prod.snd hqe
   exact decide_eq_true ⟨h1,h2⟩
theorem rst_same (r:Vl) (e:En):rst r e e=e:=by
 cases r <;> simp [rst]
theorem Ja {ns:List Int} {i:Nat} {d:PyData} (h:(ns.map PyData.int)[i]?=some d):∃x,d=.int x∧ns[i]?=some x∧x∈ns∧i < ns.length:=by
 rw [List.getElem?_map] at h
 cases hx:ns[i]? with
 | none=>rw [hx] at h; cases h
 | some x=>
  rw [hx] at h
  exact ⟨x,(Option.some.inj h).symm,rfl,List.mem_of_getElem? hx,(List.getElem?_eq_some_iff.mp hx).1⟩
theorem take_snoc {ns:List Int} {i:Nat} {x:Int} (h:ns[i]?=some x):ns.take (i + 1)=ns.take i++[x]:=by
 rw [List.take_add_one,h]
 rfl
theorem Rv:∀(rs:List cY),rs.length≤10→∃rs':List cY,rs'.Perm rs∧dI [.dict (cH rs)]=some (.ow (.list (rs'.map fun r=>gb r.1 r.2.1)))
 | [],_=>⟨[],List.Perm.refl _,rfl⟩
 | r::rs,h=>by
  rw [List.length_cons] at h
  have hall:((cH (r::rs)).all fun p=>decide (rN p.1=some [false,true]))=true:=by
   rw [List.all_eq_true]
   intro p hp
   obtain ⟨q,_,rfl⟩:=List.mem_map.mp hp
   exact decide_eq_true rfl
  have e:dI [.dict (cH (r::rs))]=some (.ow (.list (rO ((cH (r::rs)).map (·.1))))):=by
   have h2:um [.dict (cH (r::rs))]=some (.ow (.list (rO ((cH (r::rs)).map (·.1))))):=by
    show (if (cH rs).length < 63∧((cH (r::rs)).all fun p=>decide (rN p.1=some [false,true]))=true then some (Vl.ow (.list (rO ((cH (r::rs)).map (·.1))))) else none)=_
    exact if_pos ⟨by unfold cH; rw [List.length_map]; omega,hall⟩
   unfold dI
   rw [show iZ [.dict (cH (r::rs))]=none from rfl,h2]
  have p:=yq (ds:=(cH (r::rs)).map (·.1)) fun d hd=>by obtain ⟨p,hp,rfl⟩:=List.mem_map.mp hd; obtain ⟨q,_,rfl⟩:=List.mem_map.mp hp; rfl
  have em:(cH (r::rs)).map (·.1)=(r::rs).map fun r=>gb r.1 r.2.1:=by
   unfold cH
   rw [List.map_map]
   rfl
  rw [em] at p
  obtain ⟨rs',p1,p2⟩:=qF p
  exact ⟨rs',p1,by rw [e,em,p2]⟩
theorem Jb:∀{rs:List cY} {r:cY},r∈rs→(rs.map KQ).Nodup→iT cW [.inr r.1,.inl r.2.1] (cH rs)=some (dR r.2.2)
 | q::rs,r,hm,hn=>by
  rw [List.map_cons,List.nodup_cons] at hn
  show (if cW (gb q.1 q.2.1)=some [.inr r.1,.inl r.2.1] then some (dR q.2.2) else iT cW [.inr r.1,.inl r.2.1] (cH rs))=_
  rcases List.mem_cons.mp hm with rfl | hm
  ·rw [if_pos (uo _ _)]
  ·rw [if_neg,Jb hm hn.2]
   intro e
   rw [uo] at e
   have e1:q.1=r.1:=by injection e with e; injection e with e1 e2; injection e1
   have e2:q.2.1=r.2.1:=by injection e with e; injection e with e1 e2; injection e2 with e2 _; injection e2
   exact hn.1 (List.mem_map.mpr ⟨r,hm,by show (r.1,r.2.1)=(q.1,q.2.1); rw [e1,e2]⟩)
theorem Yo {rs:List cY} {r:cY} (hm:r∈rs) (hn:(rs.map KQ).Nodup):bz (.dict (cH rs)) (gb r.1 r.2.1)=some (.im (dR r.2.2)):=by
 have h:qp (cH rs) (gb r.1 r.2.1)=some (some (dR r.2.2)):=by
  show (if (cF cW (cH rs)).isSome then some (iT cW [.inr r.1,.inl r.2.1] (cH rs)) else none)=_
  rw [Ac,Jb hm hn]
  rfl
 unfold bz Px
 simp only [h,Option.map_some]
theorem yz:∀ss:List oK,fW (ss.map oM)=true
 | []=>rfl
 | s::ss=>by
  show (true&&fW (ss.map oM))=true
  rw [yz ss]
  rfl
theorem rU:∀rs:List cY,fW (rs.map jb)=true
 | []=>rfl
 | r::rs=>by
  show ((true&&(true&&(fW (r.2.2.map oM)&&true)))&&fW (rs.map jb))=true
  rw [rU rs,yz]
  rfl
theorem Gj:∀(ps:List (Str×Str)),ps.length≤8→∃ps':List (Str×Str),ps'.Perm ps∧dI [.list (ps.map cI)]=some (.ow (.list (ps'.map cI)))
 | [],_=>⟨[],List.Perm.refl _,rfl⟩
 | r::rs,h=>by
  have hall:(((r::rs).map cI).all fun p=>decide (rN p=some [false,false]))=true:=by
   rw [List.all_eq_true]
   intro p hp
   obtain ⟨q,_,rfl⟩:=List.mem_map.mp hp
   exact decide_eq_true rfl
  have hs:u9 ((r::rs).map cI)=some (rO ((r::rs).map cI)):=by
   unfold u9
   rw [if_pos (by rw [List.length_map]; omega),show intsOf ((r::rs).map cI)=none from rfl,show strsOf ((r::rs).map cI)=none from rfl]
   show (if (((r::rs).map cI).all fun p=>decide (rN p=some [false,false]))=true then some (rO ((r::rs).map cI)) else none)=_
   exact if_pos hall
  obtain ⟨ps',p1,p2⟩:=qF (yq (ds:=(r::rs).map cI) fun d hd=>by obtain ⟨p,_,rfl⟩:=List.mem_map.mp hd; rfl)
  refine ⟨ps',p1,?_⟩
  unfold dI iZ
  simp only [hs,p2,Option.map_some]
theorem Jc {k n:Nat} {body:FS} {xs:List Vl} {en e1:En} {C C1:Ce} {r:Vl} (hk:xs.length=k) (he:xs.map some++List.replicate (n - xs.length) none=en) (h:body en C=some (.rt r,e1,C1)) (hr:Cm C.length r=true) (hC:C1.length=C.length):fN k n body xs C=some (r,C1):=by
 unfold fN
 rw [if_pos hk,he,h]
 simp only [hr,if_true,CJ hC]
theorem nR:∀zs:List Str,(zs.map PyData.str).all gG=true
 | []=>rfl
 | z::zs=>by
  rw [List.map_cons,List.all_cons,nR zs]
  rfl
theorem in_strs (z:Str) (zs:List Str):BL (.str z) (.list (zs.map .str))=some (.im (.bool (decide (z∈zs)))):=by
 have:inB (.str z) (.list (zs.map .str))=some (inD (.str z) (zs.map .str)):=if_pos (by rw [nR]; rfl)
 unfold BL
 rw [this,vq]
 rfl
theorem eq_strs (x z:Str):o7 (.str x) (.str z)=some (.im (.bool (decide (x=z)))):=by
 have:(x==z)=decide (x=z):=by rw [Bool.eq_iff_iff]; simp
 show some (Vl.im (.bool (x==z)))=_
 rw [this]
theorem ne_strs (x z:Str):t6 (.str x) (.str z)=some (.im (.bool (!decide (x=z)))):=by
 have:(x==z)=decide (x=z):=by rw [Bool.eq_iff_iff]; simp
 show some (Vl.im (.bool (!(x==z))))=_
 rw [this]
noncomputable def iH (q:List (Str×Str)):List (Str×PyData):=q.map fun p=>(p.1,.str p.2)
theorem Dc:∀q,FQ (rR (iH q))=true
 | []=>rfl
 | x::q=>by
  show (true&&FQ (rR (iH q)))=true
  rw [Dc q]
  rfl
theorem Dd (q:List (Str×Str)) (z:Str):qp (rR (iH q)) (.str z)=some ((cQ q z).map .str):=by
 rw [Kh]
 unfold iH cQ
 rw [Oo,Option.map_map]
 rfl
theorem noLs_ints:∀l:List Int,fW (l.map PyData.int)=true
 | []=>rfl
 | x::l=>by
  show (true&&fW (l.map PyData.int))=true
  rw [noLs_ints l]
  rfl
theorem vH:∀(n:Nat),yo [.list (List.replicate n (.bool true))]=some (.im (.bool true))∧fW (List.replicate n (.bool true))=true:=by
 intro n
 have h:boolsOf (List.replicate n (.bool true))=some (List.replicate n true)∧fW (List.replicate n (.bool true))=true:=by
  induction n with
  | zero=>exact ⟨rfl,rfl⟩
  | succ n ih=>
   rw [List.replicate_succ,List.replicate_succ]
   refine ⟨?_,?_⟩
   ·unfold boolsOf
    rw [ih.1]
   ·show (true&&fW (List.replicate n (.bool true)))=true
    rw [ih.2]
    rfl
 refine ⟨?_,h.2⟩
 unfold yo
 simp only [h.1,Option.map_some]
 congr 3
 rw [List.all_eq_true]
 intro b hb
 exact (List.mem_replicate.mp hb).2
theorem yC:∀ps:List (Str×Str),iR (ps.map cI)=true
 | []=>rfl
 | p::ps=>by show (true&&iR (ps.map cI))=true; rw [yC ps]; rfl
theorem yD:∀ps:List dJ,iR (ps.map cZ)=true
 | []=>rfl
 | p::ps=>by show (true&&iR (ps.map cZ))=true; rw [yD ps]; rfl
theorem vI:∀ps:List pD,iR (ps.map kJ)=true
 | []=>rfl
 | p::ps=>by show (true&&iR (ps.map kJ))=true; rw [vI ps]; rfl
theorem yE:∀ps:List oK,iR (ps.map oM)=true
 | []=>rfl
 | p::ps=>by show (true&&iR (ps.map oM))=true; rw [yE ps]; rfl
theorem yF:∀rs:List cY,iR (rs.map jb)=true
 | []=>rfl
 | r::rs=>by
  show ((true&&(true&&(iR (r.2.2.map oM)&&true)))&&iR (rs.map jb))=true
  rw [yF rs,yE]
  rfl
theorem Kr (h:dh):J4 (bG h)=true:=by
 show (iR (h.ps.map cI)&&(iR (h.bw.map cZ)&&(iR (h.leaves.map kJ)&&(iR (h.rules.map jb)&&true))))=true
 rw [yC,yD,vI,yF]
 rfl
theorem Rw {zs:List Str} {ps:List (Str×Str)} {h:dh} (hz:∀z∈zs,nameB z=true) (hp:cg zs ps) (g:eF zs ps h):rK [bG h]=some (.im (.str (bG h).shown)):=by
 have s:=Kg hz hp g
 unfold rK
 refine if_pos ?_
 have h1:(bG h).depth≤60:=Nat.le_trans s.deep (by decide)
 have h2:(bG h).shown.length≤LIM:=Nat.le_trans s.len (by show 200000≤1000000; decide)
 rw [Kr,s.V3,decide_eq_true h1,decide_eq_true h2]
 rfl
theorem fP {zs:List Str} {k:Int} (h0:0≤k) (h1:k < zs.length):∃z,z∈zs∧zs[k.toNat]?=some z∧jB (zs.map PyData.str) k=some (.str z):=by
 obtain ⟨x,e1,e2⟩:=FZ (xs:=zs.map PyData.str) h0 (by rw [List.length_map]; exact h1)
 rw [List.getElem?_map] at e2
 cases hz:zs[k.toNat]? with
 | none=>rw [hz] at e2; cases e2
 | some z=>
  rw [hz] at e2
  cases e2
  exact ⟨z,List.mem_of_getElem? hz,rfl,e1⟩
theorem rW {α:Type} {f:α→PyData} {l:List α} {i:Nat} {d:PyData} (h:(l.map f)[i]?=some d):∃x,l[i]?=some x∧d=f x:=by
 rw [List.getElem?_map] at h
 cases hx:l[i]? with
 | none=>rw [hx] at h; cases h
 | some x=>rw [hx] at h; exact ⟨x,rfl,(Option.some.inj h).symm⟩
noncomputable def Bf (L:Nat) (C:Ce) (b k:Nat):Prop:=C.length=L∧∃x y z:Int,C[b]?=some [x,y,z]∧0≤x∧0≤y∧y≤3000000000∧0≤z∧z + k≤900000
theorem Bf.mono {L:Nat} {C:Ce} {b k j:Nat} (h:Bf L C b k) (hj:j≤k):Bf L C b j:=by
 obtain ⟨l,x,y,z,h1,h2,h3,h4,h5,h6⟩:=h
 exact ⟨l,x,y,z,h1,h2,h3,h4,h5,by omega⟩
theorem Bf.dec {L:Nat} {C:Ce} {b k:Nat} (h:Bf L C b (k + 1)):Bf L C b k:=h.mono (Nat.le_succ k)
theorem Bf.eq {L:Nat} {C C':Ce} {b b' k k':Nat} (h:Bf L C b k) (h':Bf L C' b' k'):C'.length=C.length:=h'.1.trans h.1.symm
theorem V8 (C:Ce) {x y:Int} (h0:0≤x) (h1:0≤y) (h2:y≤3000000000):Bf (C.length + 1) (C++[[x,y,0]]) C.length 800000:=by
 refine ⟨by simp,x,y,0,?_,h0,h1,h2,Int.le_refl _,by omega⟩
 rw [List.getElem?_append_right (Nat.le_refl _),Nat.sub_self]
 rfl
inductive HE (b:Nat) (zs:List Str) (ps:List (Str×Str)) (own:List Str) (rk:List dJ) (lv:List pD) (ru:List (PyData×PyData)):En→Prop
 | mk (v7 v8 v9 v10 v11 jO j0 fM fO jc KN IW:Option Vl):HE b zs ps own rk lv ru (Gi b zs ps own rk lv ru v7 v8 v9 v10 v11 jO j0 fM fO jc KN IW)
theorem yG (a c:Nat) {n i:Nat} (h:i < n):a + c * (n - i)=a + c * (n - (i + 1)) + c:=by
 rw [show n - i=(n - (i + 1)) + 1 by omega,Nat.mul_add,Nat.mul_one,Nat.add_assoc]
theorem Ow (a:Nat) {n i:Nat} (h:i < n):a + (n - i)=a + (n - (i + 1)) + 1:=by omega
theorem hide {P:Prop} (h:∀G:Prop,(P→G)→G):P:=h P id
end L2
namespace L2
open PySem PySem.Spec PyProof.Rows PySem.W
section
variable {prog:Program} {w:World} {A:Around} {E:Value→Shared→Prop} {s:Shared}
theorem V9 {it t:Addr} {i:Nat} {its:Array Value} {x:Value} {Q:Value→Shared→Prop} (hit:s.heap.IsTupleIter it t i) (ht:s.heap.IsTuple t its) (hx:its[i]?=some x)
  (q:∀h',h'.IsTupleIter it t (i + 1)→Heap.SameBut it s.heap h'→Q x { s with heap:=h' }):wpAny (model prog w) A (Builtin.SmallTypes.nextOf (.ref it)) Q E s:=by
 obtain ⟨o,ho,hc,hd⟩:=id hit
 obtain ⟨ol,hol,_,nl,hdl⟩:=ht
 unfold Builtin.SmallTypes.nextOf
 refine wpAny_bind (wpAny_callSpecial?_slot (name:=Str.ofString "__next__") hit.typeIs F.slot_tuple_iterator_next (wpAny_call_entry F.slot_tuple_iterator_next hit.typeIs F.entry_tuple_iterator_next (show wpAny _ _ (field (.ref it) 0 >>= _) _ _ s from wpAny_bind (wpAny_field ho hd (x:=.ref t) rfl ?_)) (F.args_tuple_iterator_next_1 _)))
 show wpAny _ _ (if (Value.ref t==Value.none)=true then _ else _) _ _ s; rw [if_neg (show ¬((Value.ref t==Value.none)=true) from Bool.false_ne_true)]
 refine (show wpAny _ _ (field (.ref it) 1 >>= _) _ _ s from wpAny_bind (wpAny_field ho hd (x:=.int i 0) rfl (show wpAny _ _ (seqItems? (.ref t) >>= _) _ _ s from wpAny_bind (wpAny_seqItems hol hdl ?_))))
 simp only [Int.toNat_natCast,hx]
 refine wpAny_bind (wpAny_setField ho hd (by simp) (wpAny_pure ⟨x,rfl,wpAny_pure (q _ ⟨_,Heap.get?_update_self _ ho (Obj.isFreed_of_fields (Obj.data_mapFields hd _)),(Obj.cls_mapFields ..).trans hc,?_⟩ (Heap.SameBut.update ..))⟩))
 rw [Obj.data_mapFields hd]; simp [rawInt]
theorem Gk {it t:Addr} {i:Nat} {its:Array Value} {Q:Value→Shared→Prop} (hh:A.handled=none) (hit:s.heap.IsTupleIter it t i) (ht:s.heap.IsTuple t its) (hx:its[i]?=none)
  (q:∀h' e,Heap.ExtBut it s.heap h'→(∃o,h'.get? e=some o∧o.cls=.type "StopIteration")→E (.ref e) { s with heap:=h' }):wpAny (model prog w) A (Builtin.SmallTypes.nextOf (.ref it)) Q E s:=by
 obtain ⟨o,ho,hc,hd⟩:=id hit
 obtain ⟨ol,hol,_,nl,hdl⟩:=ht
 unfold Builtin.SmallTypes.nextOf
 refine wpAny_bind (wpAny_callSpecial?_slot (name:=Str.ofString "__next__") hit.typeIs F.slot_tuple_iterator_next (wpAny_call_entry F.slot_tuple_iterator_next hit.typeIs F.entry_tuple_iterator_next (show wpAny _ _ (field (.ref it) 0 >>= _) _ _ s from wpAny_bind (wpAny_field ho hd (x:=.ref t) rfl ?_)) (F.args_tuple_iterator_next_1 _)))
 show wpAny _ _ (if (Value.ref t==Value.none)=true then _ else _) _ _ s; rw [if_neg (show ¬((Value.ref t==Value.none)=true) from Bool.false_ne_true)]
 refine (show wpAny _ _ (field (.ref it) 1 >>= _) _ _ s from wpAny_bind (wpAny_field ho hd (x:=.int i 0) rfl (show wpAny _ _ (seqItems? (.ref t) >>= _) _ _ s from wpAny_bind (wpAny_seqItems hol hdl ?_))))
 simp only [Int.toNat_natCast,hx]
 refine wpAny_bind (wpAny_rule (wpAny_bind (wpAny_setField ho hd (by simp) (show wpAny _ _ (newExc (.type "StopIteration") [] >>= _) _ _ _ from wpAny_bind ?_))))
 simp only [newExc,newTuple]
 refine wpAny_bind (wpAny_newObj_type (wpAny_bind (m:=firstArgMember _ _) (wpAny_of_eq (a:=Value.none) (by first | rfl | (simp only [firstArgMember]; rfl)) (wpAny_newObj_type ?_ (by size_fits)))) (by size_fits))
 simp only [raiseNew]
 refine wpAny_bind (wpAny_handled ?_)
 first | rw [show A.in1.handled=none from hh,] | rw [hh]
 exact wpAny_bind (wpAny_pure (wpAny_throw (q _ _ (((Heap.SameBut.update ..).extBut.push _).push _) ⟨_,Heap.get?_push_size _ rfl,rfl⟩)))
end
theorem rY {prog:Program} {w:World} {A:Around} (hh:A.handled=none) (it t:Addr) (ne:t≠it) (its:Array Value):Draws prog w A it [it,t] its.size (fun i v=>its[i]?=some v) (fun i h=>h.IsTupleIter it t i∧h.IsTuple t its) where
 live:=fun _ _ st=>let ⟨o,ho,_⟩:=st.1; ⟨o,ho⟩
 frame:=fun _ _ _ st k=>⟨let ⟨o,e,r⟩:=st.1; ⟨o,k it (by simp) o e,r⟩,let ⟨o,e,r⟩:=st.2; ⟨o,k t (by simp) o e,r⟩⟩
 item:=fun i s Q E hi st q=>V9 st.1 st.2 (x:=its[i]) (by simp [hi]) fun h' a b=>q _ h' s.toks (by simp [hi]) ⟨a,st.2.extBut b.extBut ne⟩ b
 done:=fun s Q E st q=>Gk hh st.1 st.2 (by simp) q
section
variable {prog:Program} {w:World} {A:Around} {E:Value→Shared→Prop} {s:Shared} {z TI TO i1 i2 l1 l2:Addr} {f1 f2:List Addr} {n:Nat} {P1 P2:Nat→Value→Prop} {S1 S2:Nat→Heap→Prop}
theorem Rx {i:Nat} {a b:Value} {Q:Option Value→Shared→Prop} (D:ZipApart z TI TO i1 i2 l1 l2) (D1:Draws prog w A.in1 i1 [i1,l1] n P1 S1) (D2:Draws prog w A.in1 i2 [i2,l2] n P2 S2) (hi:i < n)
  (hz:IsZip s.heap z TI TO .none) (hI:IsPair s.heap TI (.ref i1) (.ref i2)) (hO:IsPair s.heap TO a b) (h1:S1 i s.heap) (h2:S2 i s.heap)
  (q:∀h' tk x y T,P1 i x→P2 i y→s.heap.objs.size≤T→IsZip h' z TI TO (rawInt T)→IsPair h' TO x y→S1 (i + 1) h'→S2 (i + 1) h'→IsPair h' T x y→(∀c o,c∉[z,TO,i1,i2]→s.heap.get? c=some o→h'.get? c=some o)→Q (some (.ref T)) { s with heap:=h',toks:=tk }):
  wpAny (model prog w) A (pyNext (.ref z)) Q E s:=by
 have hT:s.TypeIs (.ref z) "zip":=⟨_,hz,rfl⟩
 have k1:∀{h h':Heap} {c:Addr} {j:Nat},c≠i1→c≠l1→Heap.ExtBut c h h'→S1 j h→S1 j h':=fun {h h' c j} e1 e2 k st=>D1.frame _ _ _ st fun b hb o e=>k b o (fun z=>by subst z; simp at hb; rcases hb with hb | hb; exact e1 hb; exact e2 hb) e
 have k2:∀{h h':Heap} {c:Addr} {j:Nat},c≠i2→c≠l2→Heap.ExtBut c h h'→S2 j h→S2 j h':=fun {h h' c j} e1 e2 k st=>D2.frame _ _ _ st fun b hb o e=>k b o (fun z=>by subst z; simp at hb; rcases hb with hb | hb; exact e1 hb; exact e2 hb) e
 unfold pyNext
 refine wpAny_bind (wpAny_attempt (wpAny_callSpecial?_slot (name:=Str.ofString "__next__") hT F.slot_zip_next (wpAny_call_entry F.slot_zip_next hT F.entry_zip_next ?_ (F.args_zip_next_1 _))))
 refine (show wpAny _ _ (field (.ref z) 2 >>= _) _ _ _ from wpAny_bind (wpAny_field hz rfl (x:=.bool false) rfl (show wpAny _ _ (field (.ref z) 3 >>= _) _ _ _ from wpAny_bind (wpAny_field hz rfl (x:=.ref TI) rfl (wpAny_bind (wpAny_seqItems hI rfl ?_))))))
 show wpAny _ _ (Builtin.SmallTypes.ownedTupleIsFree (.ref z) >>= _) _ _ _; refine wpAny_bind ?_
 unfold Builtin.SmallTypes.ownedTupleIsFree
 refine wpAny_bind (wpAny_field hz rfl (x:=.none) rfl (wpAny_pure ?_))
 simp only [if_true]
 refine wpAny_bind (wpAny_rule (wpAny_bind (wpAny_field hz rfl (x:=.ref TO) rfl (wpAny_bind (wpAny_setField_rec hz (by simp) fun g1 z1 m1=>?_)))))
 replace z1:IsZip g1 z TI TO .ellipsis:=z1
 refine wpAny_bind ?_
 simp only [List.zipIdx_cons,List.zipIdx_nil,List.forIn_cons,List.forIn_nil]
 refine wpAny_bind (wpAny_bind (wpAny_onRaise (show wpAny _ _ (Builtin.SmallTypes.nextOf (.ref i1) >>= _) _ _ _ from wpAny_bind (D1.item i _ _ _ hi (k1 D.i1z.symm D.l1z.symm m1.extBut h1) fun x g2 t2 px s2 m2=>wpAny_pure ?_))))
 have o2:IsPair g2 TO a b:=m2.extBut _ _ D.TOi1 (m1.extBut _ _ D.TOz hO)
 refine wpAny_bind (wpAny_seqItems o2 rfl (wpAny_bind (wpAny_updateSeq_pair o2 fun g3 o3 m3=>wpAny_bind (wpAny_letGo (wpAny_pure ?_)))))
 replace o3:IsPair g3 TO x b:=o3
 refine wpAny_bind (wpAny_bind (wpAny_onRaise (show wpAny _ _ (Builtin.SmallTypes.nextOf (.ref i2) >>= _) _ _ _ from wpAny_bind (D2.item i _ _ _ hi (k2 D.TOi2 D.l2TO.symm m3.extBut (k2 D.i12 D.l2i1.symm m2.extBut (k2 D.i2z.symm D.l2z.symm m1.extBut h2))) fun y g4 t4 py s4 m4=>wpAny_pure ?_))))
 have o4:IsPair g4 TO x b:=m4.extBut _ _ D.TOi2 o3
 refine wpAny_bind (wpAny_seqItems o4 rfl (wpAny_bind (wpAny_updateSeq_pair o4 fun g5 o5 m5=>wpAny_bind (wpAny_letGo (wpAny_pure (wpAny_pure ?_))))))
 replace o5:IsPair g5 TO x y:=o5
 refine wpAny_bind (wpAny_seqItems o5 rfl (wpAny_bind (wpAny_newTuple ?_)))
 have sz:g5.objs.size=s.heap.objs.size:=by rw [m5.1,m4.1,m3.1,m2.1,m1.1]
 have z5:IsZip g5 z TI TO .ellipsis:=m5.extBut _ _ D.TOz.symm (m4.extBut _ _ D.i2z.symm (m3.extBut _ _ D.TOz.symm (m2.extBut _ _ D.i1z.symm z1)))
 have keep:∀c o,c∉[z,TO,i1,i2]→s.heap.get? c=some o→g5.get? c=some o:=fun c o hc e=>by
  simp only [List.mem_cons,List.not_mem_nil,or_false,not_or] at hc
  exact m5.extBut _ _ hc.2.1 (m4.extBut _ _ hc.2.2.2 (m3.extBut _ _ hc.2.1 (m2.extBut _ _ hc.2.2.1 (m1.extBut _ _ hc.1 e))))
 have u1:S1 (i + 1) g5:=k1 D.TOi1 D.l1TO.symm m5.extBut (k1 D.i12.symm D.l1i2.symm m4.extBut (k1 D.TOi1 D.l1TO.symm m3.extBut s2))
 have u2:S2 (i + 1) g5:=k2 D.TOi2 D.l2TO.symm m5.extBut s4
 have zl:z < g5.objs.size:=Heap.lt_size z5
 show wpAny _ _ (Builtin.SmallTypes.ownedTupleHandOut (.ref z) (.ref g5.objs.size) >>= _) _ _ _; refine wpAny_bind ?_
 unfold Builtin.SmallTypes.ownedTupleHandOut
 have z6:IsZip (g5.push { cls:=.type "tuple",data:=.seq #[x,y] }) z TI TO .ellipsis:=Heap.get?_push_of_some _ z5
 refine wpAny_bind (wpAny_setField_rec z6 (by simp) fun g7 z7 m7=>?_)
 replace z7:IsZip g7 z TI TO (rawInt g5.objs.size):=z7
 refine wpAny_setField_rec z7 (by simp) fun g8 z8 m8=>?_
 replace z8:IsZip g8 z TI TO (rawInt g5.objs.size):=z8
 have up:Heap.ExtBut z g5 g8:=fun c o hc e=>m8.extBut _ _ hc (m7.extBut _ _ hc (Heap.get?_push_of_some _ e))
 refine wpAny_pure ⟨_,rfl,wpAny_pure ?_⟩
 refine q g8 _ x y g5.objs.size px py (Nat.le_of_eq sz.symm) z8 (up _ _ D.TOz o5) (k1 D.i1z.symm D.l1z.symm up u1) (k2 D.i2z.symm D.l2z.symm up u2) ?_ fun c o hc e=>up _ _ (fun z=>hc (by simp [z])) (keep c o hc e)
 exact m8.extBut _ _ (Nat.ne_of_gt zl) (m7.extBut _ _ (Nat.ne_of_gt zl) (Heap.get?_push_size _ rfl))
theorem Wa {a b:Value} {Q:Option Value→Shared→Prop} (D:ZipApart z TI TO i1 i2 l1 l2) (D1:Draws prog w A.in1 i1 [i1,l1] n P1 S1) (hz:IsZip s.heap z TI TO .none) (hI:IsPair s.heap TI (.ref i1) (.ref i2)) (hO:IsPair s.heap TO a b) (h1:S1 n s.heap)
  (q:∀h',(∀c o,c∉[z,TO,i1,i2]→s.heap.get? c=some o→h'.get? c=some o)→Q none { s with heap:=h' }):wpAny (model prog w) A (pyNext (.ref z)) Q E s:=by
 have hT:s.TypeIs (.ref z) "zip":=⟨_,hz,rfl⟩
 unfold pyNext
 refine wpAny_bind (wpAny_attempt (wpAny_callSpecial?_slot (name:=Str.ofString "__next__") hT F.slot_zip_next (wpAny_call_entry F.slot_zip_next hT F.entry_zip_next ?_ (F.args_zip_next_1 _))))
 refine (show wpAny _ _ (field (.ref z) 2 >>= _) _ _ _ from wpAny_bind (wpAny_field hz rfl (x:=.bool false) rfl (show wpAny _ _ (field (.ref z) 3 >>= _) _ _ _ from wpAny_bind (wpAny_field hz rfl (x:=.ref TI) rfl (wpAny_bind (wpAny_seqItems hI rfl ?_))))))
 show wpAny _ _ (Builtin.SmallTypes.ownedTupleIsFree (.ref z) >>= _) _ _ _; refine wpAny_bind ?_
 unfold Builtin.SmallTypes.ownedTupleIsFree
 refine wpAny_bind (wpAny_field hz rfl (x:=.none) rfl (wpAny_pure ?_))
 simp only [if_true]
 refine wpAny_bind (wpAny_rule (wpAny_bind (wpAny_field hz rfl (x:=.ref TO) rfl (wpAny_bind (wpAny_setField_rec hz (by simp) fun g1 z1 m1=>?_)))))
 replace z1:IsZip g1 z TI TO .ellipsis:=z1
 refine wpAny_bind ?_
 simp only [List.zipIdx_cons,List.zipIdx_nil,List.forIn_cons,List.forIn_nil]
 refine wpAny_bind (wpAny_bind (wpAny_onRaise (show wpAny _ _ (Builtin.SmallTypes.nextOf (.ref i1) >>= _) _ _ _ from wpAny_bind (D1.done _ _ _ (D1.frame _ _ _ h1 fun b hb o e=>m1.extBut b o (fun z=>by subst z; simp at hb; rcases hb with hb | hb; exact D.i1z hb.symm; exact D.l1z hb.symm) e) fun g2 x m2 hx=>?_))))
 obtain ⟨ox,e1,e2⟩:=hx
 have z2:IsZip g2 z TI TO .ellipsis:=m2 _ _ D.i1z.symm z1
 have nz:x≠z:=fun y=>by subst y; rw [z2] at e1; cases e1; simp at e2
 refine wpAny_setField_rec z2 (by simp) fun g3 _ m3=>?_
 refine wpAny_bind (wpAny_isInstance (T:="StopIteration") (b:=true) ⟨ox,m3.extBut _ _ nz e1,e2⟩ isSubtype_stop (wpAny_pure (q _ fun c o hc e=>?_)))
 simp only [List.mem_cons,List.not_mem_nil,or_false,not_or] at hc
 exact m3.extBut _ _ hc.1 (m2 _ _ hc.2.2.1 (m1.extBut _ _ hc.1 e))
end
end L2
namespace L2
open PySem PySem.Spec PyProof.Rows PySem.W
noncomputable abbrev Wv (h:Heap) (a:Addr):Heap:=h.push { cls:=.type "tuple_iterator",data:=.fields #[.ref a,.int 0 0] }
noncomputable abbrev Y9 (h:Heap) (a b:Addr):Heap:=Wv (Wv h a) b
noncomputable abbrev Za (h:Heap) (a b:Addr):Heap:=(Y9 h a b).push { cls:=.type "tuple",data:=.seq #[.ref h.objs.size,.ref (Wv h a).objs.size] }
noncomputable abbrev Zb (h:Heap) (a b:Addr):Heap:=(Za h a b).push { cls:=.type "tuple",data:=.seq #[.none,.none] }
noncomputable abbrev Ww (h:Heap) (a b:Addr):Heap:=(Zb h a b).push { cls:=.type "zip",data:=.fields #[.none,.bool false,.bool false,.ref (Y9 h a b).objs.size,.ref (Za h a b).objs.size] }
theorem Wb (a b:Addr) (xs ys:Array Value):Meets (Builtin.«zip.__new__» ⟨[.type "zip",.ref a,.ref b],[]⟩) (fun _ R s=>s.heap.IsTuple a xs∧s.heap.IsTuple b ys∧R (.ok (.ret (.ref (Zb s.heap a b).objs.size))) { s with heap:=Ww s.heap a b }):=
 .of_wp fun prog w A R s h=>by
  obtain ⟨hp,g,d,tk,os⟩:=s; obtain ⟨h1,h2,q⟩:=h
  have sub:=sub_zip
  have t1:Heap.IsTuple (Shared.heap ⟨hp,g,d,tk,os⟩) a xs:=h1
  have t2:Heap.IsTuple (Shared.heap ⟨Wv hp a,g,d,tk,os⟩) b ys:=Heap.IsTuple.push h2 _
  wp_walk using wpAny_pyIter_tuple t1,wpAny_pyIter_tuple t2
  exact ⟨_,rfl,q⟩
theorem Ks {prog:Program} {w:World} {A:Around} {E:Value→Shared→Prop} {s:Shared} {a b:Addr} {xs ys:Array Value} {Q:Value→Shared→Prop} (h1:s.heap.IsTuple a xs) (h2:s.heap.IsTuple b ys)
  (q:∀h',IsZip h' (s.heap.objs.size + 4) (s.heap.objs.size + 2) (s.heap.objs.size + 3) .none→IsPair h' (s.heap.objs.size + 2) (.ref s.heap.objs.size) (.ref (s.heap.objs.size + 1))→IsPair h' (s.heap.objs.size + 3) .none .none→h'.IsTupleIter s.heap.objs.size a 0→h'.IsTupleIter (s.heap.objs.size + 1) b 0→
   (∀c o,s.heap.get? c=some o→h'.get? c=some o)→Q (.ref (s.heap.objs.size + 4)) { s with heap:=h' }):wpAny (model prog w) A (call (.type "zip") [.ref a,.ref b]) Q E s:=by
 refine callType_new F.called_zip (by decide) (F.typeCall_zip_2 _ _) (F.newCall_zip_2 _ _) (fun obj=>F.args_object_init_3 obj _ _) F.entry_zip_new (Wb a b xs ys) ⟨h1,h2,?_⟩
 have z1:(Wv s.heap a).objs.size=s.heap.objs.size + 1:=Heap.size_push ..
 have z2:(Y9 s.heap a b).objs.size=s.heap.objs.size + 2:=(Heap.size_push ..).trans (by rw [z1])
 have z3:(Za s.heap a b).objs.size=s.heap.objs.size + 3:=(Heap.size_push ..).trans (by rw [z2])
 have z4:(Zb s.heap a b).objs.size=s.heap.objs.size + 4:=(Heap.size_push ..).trans (by rw [z3])
 have g5:(Ww s.heap a b).get? (Zb s.heap a b).objs.size=some _:=Heap.get?_push_size _ rfl
 have g4:(Ww s.heap a b).get? (Za s.heap a b).objs.size=some _:=Heap.get?_push_of_some _ (Heap.get?_push_size _ rfl)
 have g3:(Ww s.heap a b).get? (Y9 s.heap a b).objs.size=some _:=Heap.get?_push_of_some _ (Heap.get?_push_of_some _ (Heap.get?_push_size _ rfl))
 have g2:(Ww s.heap a b).get? (Wv s.heap a).objs.size=some _:=Heap.get?_push_of_some _ (Heap.get?_push_of_some _ (Heap.get?_push_of_some _ (Heap.get?_push_size _ rfl)))
 have g1:(Ww s.heap a b).get? s.heap.objs.size=some _:=Heap.get?_push_of_some _ (Heap.get?_push_of_some _ (Heap.get?_push_of_some _ (Heap.get?_push_of_some _ (Heap.get?_push_size _ rfl))))
 rw [z2,z3,z4] at g5
 rw [z1,z2] at g3
 rw [z3] at g4
 rw [z1] at g2
 show _∧_
 rw [z4]
 exact ⟨⟨_,g5,rfl⟩,q _ g5 g3 g4 ⟨_,g1,rfl,rfl⟩ ⟨_,g2,rfl,rfl⟩ fun c o e=>Heap.get?_push_of_some _ (Heap.get?_push_of_some _ (Heap.get?_push_of_some _ (Heap.get?_push_of_some _ (Heap.get?_push_of_some _ e))))⟩
noncomputable def Wc (K:PySem.W.Frag) (a b:Addr):It:=⟨fun i H=>∃xs ys,eX K H a xs∧eX K H b ys∧xs.length=ys.length∧i < xs.length,
 fun i H v H'=>∃p x y,H p=none∧v=.ref p∧H'=upd H p (.tup [x,y])∧∀xs ys,eX K H a xs→eX K H b ys→xs[i]?=some x∧ys[i]?=some y,
 fun i H=>∃xs ys,eX K H a xs∧eX K H b ys∧xs.length=ys.length∧i=xs.length⟩
theorem Ku {P:Program} {w:World} {K:PySem.W.Frag} {es:List Expr} {k:Nat} {ps:Pos} {a b z TI TO i1 i2:Addr} (D:ZipApart z TI TO i1 i2 a b):
  Turn P w K (.Tuple es k ps) (Wc K a b) [z,TI,TO,i1,i2] z (fun i h=>IsZip h z TI TO .none∧IsPair h TI (.ref i1) (.ref i2)∧(∃c d,IsPair h TO c d)∧h.IsTupleIter i1 a i∧h.IsTupleIter i2 b i) where
 mem:=by simp
 obj:=fun i h st c hc=>by
  obtain ⟨h1,h2,⟨_,_,h3⟩,⟨o4,e4,_,d4⟩,⟨o5,e5,_,d5⟩⟩:=st
  simp only [List.mem_cons,List.not_mem_nil,or_false] at hc
  rcases hc with rfl | rfl | rfl | rfl | rfl
  ·exact ⟨_,h1,fun v q=>by cases q⟩
  ·exact ⟨_,h2,fun v q=>by cases q⟩
  ·exact ⟨_,h3,fun v q=>by cases q⟩
  ·exact ⟨_,e4,fun v q=>by rw [d4] at q; cases q⟩
  ·exact ⟨_,e5,fun v q=>by rw [d5] at q; cases q⟩
 keep:=fun i h h' st kk=>by
  obtain ⟨h1,h2,⟨c,d,h3⟩,⟨o4,e4,r4⟩,⟨o5,e5,r5⟩⟩:=st
  exact ⟨kk z (by simp) _ h1,kk TI (by simp) _ h2,⟨c,d,kk TO (by simp) _ h3⟩,⟨o4,kk i1 (by simp) _ e4,r4⟩,⟨o5,kk i2 (by simp) _ e5,r5⟩⟩
 item:=by
  intro X hP hw hK hc i pins s σ H E I hf st hg
  subst hP hw hK
  obtain ⟨xs,ys,ha,hb,hn,hi⟩:=hg
  obtain ⟨its,r1,p1,_⟩:=I.tuple ha
  obtain ⟨its2,r2,p2,_⟩:=I.tuple hb
  have l1:=r1.length
  have l2:=r2.length
  have hh:X.A.in1.handled=none:=by simp [I.ok.hd hc]
  have D1:=rY (prog:=X.prog) (w:=X.w) hh i1 a D.l1i1 its.toArray
  have D2:Draws X.prog X.w X.A.in1 i2 [i2,b] its.toArray.size (fun i v=>its2.toArray[i]?=some v) (fun i h=>h.IsTupleIter i2 b i∧h.IsTuple b its2.toArray):=by
   have:=rY (prog:=X.prog) (w:=X.w) hh i2 b D.l2i2 its2.toArray
   rw [show its.toArray.size=its2.toArray.size by simp; omega]
   exact this
  obtain ⟨s1,s2,⟨c3,d3,s3⟩,s4,s5⟩:=st
  refine Rx D D1 D2 (by simp; omega) s1 s2 s3 ⟨s4,p1⟩ ⟨s5,p2⟩ fun h' tk x y T px py hT a1 a2 a3 a4 a5 kk=>⟨_,rfl,wpAny_letOwnedTupleGo_zip a1 fun h2 z2 m2=>?_⟩
  have ltz:z < T:=Nat.lt_of_lt_of_le (Heap.lt_size s1) hT
  have ex:xs[i]?=some (xs.getD i .non):=by
   have:i < xs.length:=hi
   simp [List.getD,this]
  have ey:ys[i]?=some (ys.getD i .non):=by
   have:i < ys.length:=by omega
   simp [List.getD,this]
  obtain ⟨u1,hu1,q1⟩:=r1.get ex
  obtain ⟨u2,hu2,q2⟩:=r2.get ey
  have e1:u1=x:=by
   have:its[i]?=some x:=by simpa using px
   rw [hu1] at this
   exact Option.some.inj this
  have e2:u2=y:=by
   have:its2[i]?=some y:=by simpa using py
   rw [hu2] at this
   exact Option.some.inj this
  subst e1 e2
  have wf:∀c,c∈[z,TO,i1,i2]→iC X pins H c:=fun c hc=>hf c (by simp at hc ⊢; rcases hc with rfl | rfl | rfl | rfl <;> simp)
  have Xr:H T=none:=I.hok.fresh hT
  have kT:IsPair h2 T u1 u2:=m2.extBut _ _ (Nat.ne_of_gt ltz) a5
  refine ⟨.ref T,upd H T (.tup [xs.getD i .non,ys.getD i .non]),I.t8 (t':=tk) (fun c o hc e=>m2.extBut _ _ (fun z=>hc (by simp [z])) (kk c o hc e)) wf (aU.upd Xr) (fun c o e n=>?_) (fun c u e=>?_),rfl,⟨T,_,_,Xr,rfl,rfl,fun xs' ys' h1 h2=>?_⟩,?_,fun c hc=>?_⟩
  ·rw [aJ]
   ·exact n
   ·intro z
    subst z
    exact absurd (Heap.lt_size e) (Nat.not_lt.mpr hT)
  ·by_cases Xu:c=T
   ·subst Xu
    rw [aH] at e
    cases e
    exact .inr ⟨by show 2≤sizeLine; decide,[u1,u2],.cons q1 (.cons q2 .nil),_,kT,rfl,_,rfl⟩
   ·rw [aJ Xu] at e
    exact .inl e
  ·rw [I.qX h1 ha,I.qX h2 hb]
   exact ⟨ex,ey⟩
  ·have ltI:TI≠z:=D.TIz
   refine ⟨z2,m2.extBut _ _ D.TIz (kk _ _ ?_ s2),⟨_,_,m2.extBut _ _ D.TOz a2⟩,a3.1.extBut m2.extBut D.i1z,a4.1.extBut m2.extBut D.i2z⟩
   simp only [List.mem_cons,List.not_mem_nil,or_false,not_or]
   exact ⟨D.TIz,D.TITO,D.TIi1,D.TIi2⟩
  ·rw [aJ]
   ·exact (hf c hc).1
   ·intro e
    subst e
    have:c < s.heap.objs.size:=by
     simp only [List.mem_cons,List.not_mem_nil,or_false] at hc
     obtain ⟨o4,e4,_⟩:=s4
     obtain ⟨o5,e5,_⟩:=s5
     rcases hc with rfl | rfl | rfl | rfl | rfl
     ·exact Heap.lt_size s1
     ·exact Heap.lt_size s2
     ·exact Heap.lt_size s3
     ·exact Heap.lt_size e4
     ·exact Heap.lt_size e5
    exact absurd this (Nat.not_lt.mpr hT)
 done:=by
  intro X hP hw hK hc i pins s σ H E I hf st hg
  subst hP hw hK
  obtain ⟨xs,ys,ha,hb,hn,hi⟩:=hg
  obtain ⟨its,r1,p1,_⟩:=I.tuple ha
  have l1:=r1.length
  have hh:X.A.in1.handled=none:=by simp [I.ok.hd hc]
  have D1:=rY (prog:=X.prog) (w:=X.w) hh i1 a D.l1i1 its.toArray
  obtain ⟨s1,s2,⟨c3,d3,s3⟩,s4,s5⟩:=st
  have e:i=its.toArray.size:=by simp; omega
  subst e
  have wf:∀c,c∈[z,TO,i1,i2]→iC X pins H c:=fun c hc=>hf c (by simp at hc ⊢; rcases hc with rfl | rfl | rfl | rfl <;> simp)
  exact Wa D D1 s1 s2 s3 ⟨s4,p1⟩ fun h' kk=>⟨rfl,I.t8 (t':=s.toks) kk wf (aU.refl H) (fun _ _ _ n=>n) fun _ _ e=>.inl e⟩
 self:=fun _ _ _ _ _ st h=>wpAny_pyIter_zip st.1 h
noncomputable def Yp (K:PySem.W.Frag) (t:TA):TI:=fun σ H R=>t σ H fun vs H1=>∃a b xs ys,vs=[.ref a,.ref b]∧eX K H1 a xs∧eX K H1 b ys∧R (Wc K a b) H1
theorem Ry {X:Cx} {es:List Expr} {k:Nat} {ps:Pos} {x y:Expr} {t:TA} {p pos:Pos} (hg:Gl X "zip") (hm:X.mg "zip"=none) (ha:PA X [x,y] t) (hs:starEach [x,y] X.env=[(false,eval x X.env),(false,eval y X.env)]:=by rfl) (hs2:starEach [y] X.env=[(false,eval y X.env)]:=by rfl):
  PI X (.Tuple es k ps) (.Call (.Name "zip" p) [x,y] [] pos) (Yp X.K t):=by
 intro pins s σ H R I h
 refine Call_ (jy I hg hm PyProof.Rows.boot_zip (PyProof.Rows.callWith_type1 (cU (ha pos pins s σ H _ I h) fun us s1 aV=>?_) (by rw [hs,hs2]) (by rw [hs2]; rfl)))
 obtain ⟨vs,H1,I1,r1,a,b,xs,ys,e,h1,h2,q⟩:=aV
 subst e
 cases r1 with
 | cons r rr=>
  cases rr with
  | cons r' rr=>
   cases rr
   cases r
   cases r'
   obtain ⟨its,v1,p1,_⟩:=I1.tuple h1
   obtain ⟨its2,v2,p2,_⟩:=I1.tuple h2
   have Z9:a < s1.heap.objs.size:=by obtain ⟨_,e,_⟩:=p1; exact Heap.lt_size e
   have KJ:b < s1.heap.objs.size:=by obtain ⟨_,e,_⟩:=p2; exact Heap.lt_size e
   refine Ks p1 p2 fun h' g1 g2 g3 g4 g5 kk=>wpAny_pyIter_zip g1 ?_
   have I2:Inv X pins σ H1 { s1 with heap:=h' }:=I1.kept (t':=s1.toks) kk
   refine ⟨s1.heap.objs.size + 4,[s1.heap.objs.size + 4,s1.heap.objs.size + 2,s1.heap.objs.size + 3,s1.heap.objs.size,s1.heap.objs.size + 1],_,_,H1,rfl,I2,Ku (zipApart_new Z9 KJ),⟨g1,g2,⟨_,_,g3⟩,g4,g5⟩,fun c hc=>?_,q⟩
   refine I1.yU ?_ (I1.hok.fresh ?_)
   all_goals
    simp only [List.mem_cons,List.not_mem_nil,or_false] at hc
    rcases hc with rfl | rfl | rfl | rfl | rfl <;> omega
end L2
namespace L2
open PySem PySem.Spec PyProof.Rows PySem.W
theorem Rz {K:PySem.W.Frag} {P T:List Addr} {H:Hp} {a b:Addr} {ds es:List PyData} {vs ws:List V} (ha:er P H a=some (.tup vs)) (hb:er P H b=some (.tup ws)) (r1:d8 (er P H) ds vs) (r2:d8 (er P H) es ws) (hl:ds.length=es.length):wZ P T H (Wc K a b) (mU ds es):=fun i H2 P2 s1 s2 n=>by
 have h2:eX K H2 a vs:=eX.of (bD (s1 _ _ ha))
 have h3:eX K H2 b ws:=eX.of (bD (s1 _ _ hb))
 have l1:=bL r1
 have l2:=bL r2
 refine ⟨fun d hd=>?_,fun hi=>⟨vs,ws,h2,h3,by omega,by rw [hi,vg]; omega⟩⟩
 obtain ⟨x,y,e1,e2,rfl⟩:=zV hd
 obtain ⟨v,ev,rv⟩:=j6 r1 e1
 obtain ⟨w,ew,rw'⟩:=j6 r2 e2
 refine ⟨⟨vs,ws,h2,h3,by omega,(List.getElem?_eq_some_iff.mp ev).1⟩,fun z H3 yl=>?_⟩
 obtain ⟨p,v',w',hp,rfl,rfl,hh⟩:=yl
 obtain ⟨g1,g2⟩:=hh vs ws h2 h3
 rw [ev] at g1
 rw [ew] at g2
 cases g1
 cases g2
 have sp:aU H2 (upd H2 p (.tup [v,w])):=aU.upd hp
 refine ⟨sp,p,[v,w],rfl,?_,v,[w],rfl,rv.same (s1.trans (nH sp)),w,[],rfl,rw'.same (s1.trans (nH sp)),rfl⟩
 unfold er
 rw [if_neg (fun m=>n p m hp),aH]
noncomputable def zL:PyData→Option (Bool×List PyData)
 | .list xs=>some (true,xs)
 | .tuple xs=>some (false,xs)
 | _=>none
noncomputable def Wd:List PyData→Option (List PyData)
 | [x,y]=>(zL x).bind fun p=>(zL y).bind fun q=>if p.1=q.1∧(p.1=true∨p.2.length=q.2.length) then some (mU p.2 q.2) else none
 | _=>none
theorem RB (xs ys:List PyData):Wd [.list xs,.list ys]=some (mU xs ys):=if_pos (c:=true=true∧(true=true∨xs.length=ys.length)) (e:=none) ⟨rfl,.inl rfl⟩
theorem T4 {x:PyData} {b:Bool} {xs:List PyData} (h:zL x=some (b,xs)):x=cond b (.list xs) (.tuple xs):=by
 cases x <;> first | (cases h; rfl) | cases h
theorem RC {ds l:List PyData} (h:Wd ds=some l):∃xs ys,(ds=[.list xs,.list ys]∨ds=[.tuple xs,.tuple ys]∧xs.length=ys.length)∧l=mU xs ys:=by
 match ds,h with
 | [x,y],h=>
  obtain ⟨⟨b,xs⟩,hx,h⟩:=Option.bind_eq_some_iff.mp h
  obtain ⟨⟨c,ys⟩,hy,h⟩:=Option.bind_eq_some_iff.mp h
  rw [T4 hx,T4 hy]
  split at h
  ·rename_i hc
   obtain ⟨h1,h2⟩:=hc
   cases h
   cases (show b=c from h1)
   refine ⟨xs,ys,?_,rfl⟩
   cases b with
   | true=>exact .inl rfl
   | false=>exact .inr ⟨rfl,h2.resolve_left Bool.false_ne_true⟩
  ·cases h
noncomputable def We (f:Pu):FI:=fun env C=>(f env C).bind fun p=>(Wd p.1).map fun l=>(l,p.2)
theorem RG {X:Cx} {es:List Expr} {k:Nat} {ps:Pos} {x y:Expr} {f:Pu} {p pos:Pos} (hg:Gl X "zip") (hm:X.mg "zip"=none) (ha:PA X [x,y] (Vq X.K f)) (hs:starEach [x,y] X.env=[(false,eval x X.env),(false,eval y X.env)]:=by rfl) (hs2:starEach [y] X.env=[(false,eval y X.env)]:=by rfl):
  PI X (.Tuple es k ps) (.Call (.Name "zip" p) [x,y] [] pos) (tI X.K true (We f)):=((Vh hg hm ha hs hs2).or (Ry hg hm ha hs hs2)).weak fun σ H R aV=>by
 obtain ⟨Z,Θ,env,C,its,env',C',S,hf,q⟩:=aV
 refine hide fun GG gg=>?_
 obtain ⟨⟨ds,e1,C1⟩,h1,h2⟩:=Option.bind_eq_some_iff.mp hf
 obtain ⟨l,h3,h4⟩:=Option.map_eq_some_iff.mp h2
 cases h4
 obtain ⟨xs,ys,hd,rfl⟩:=RC h3
 rcases hd with rfl | ⟨rfl,hl⟩
 ·refine gg (.inl ⟨Z,Θ,env,C,_,env',C',S,h1,fun vs H1 k f S1 b1=>?_⟩)
  refine hide fun G2 g2=>?_
  obtain ⟨_,_,rfl,b1,b2⟩:=Ie b1
  obtain ⟨a,vs1,rfl,ha,r1⟩:=b1
  obtain ⟨b,vs2,rfl,hb,r2⟩:=b2
  exact g2 ⟨a,b,vs1,vs2,rfl,cO.of (bD ha),cO.of (bD hb),q _ H1 k f S1 (VR ha hb r1 r2)⟩
 ·refine gg (.inr ⟨Z,Θ,env,C,_,env',C',S,h1,fun vs H1 k f S1 b1=>?_⟩)
  refine hide fun G2 g2=>?_
  obtain ⟨_,_,rfl,b1,b2⟩:=Ie b1
  obtain ⟨a,vs1,rfl,ha,r1⟩:=b1
  obtain ⟨b,vs2,rfl,hb,r2⟩:=b2
  exact g2 ⟨a,b,vs1,vs2,rfl,eX.of (bD ha),eX.of (bD hb),q _ H1 k f S1 (Rz ha hb r1 r2 hl)⟩
noncomputable def fNo:FE:=fun _ _=>none
theorem Yq {X:Cx} {e:Expr}:PE X e (tE X.K fNo):=fun pins s σ H Q I h=>by
 obtain ⟨Z,Θ,env,C,r,env',C',S,hf,q⟩:=h
 cases hf
noncomputable def rZ:PyData→PyData→Option Vl
 | .list xs,.int n=>if 0≤n∧n≤1000∧xs.length≤1000 then some (.ow (.list (List.replicate n.toNat xs).flatten)) else none
 | a,b=>lK a b
noncomputable def T5:R2:=fun x y H Q=>(rI Le fun i j=>.int (i * j)) x y H Q∨Xl x y H Q
theorem Jd {X:Cx}:gW X (binaryOp .Mult) T5:=oU.or U8
theorem Je {H:Hp} {ds:List PyData} {vs:List V} (h:d8 H ds vs):∀n,d8 H (List.replicate n ds).flatten (List.replicate n vs).flatten
 | 0=>rfl
 | n + 1=>by
  rw [List.replicate_succ,List.replicate_succ,List.flatten_cons,List.flatten_cons]
  exact nO h (Je h n)
theorem Jf {K:PySem.W.Frag}:oG K T5 rZ:=by
 intro Z Θ env C σ H x y dx dy res S bx jh e Q q
 unfold rZ at e
 split at e
 ·rename_i xs n
  split at e
  case isFalse=>cases e
  rename_i hn
  cases e
  obtain ⟨a,vs,rfl,ha,r1⟩:=bx.lst
  cases jh.int
  have l1:=bL r1
  refine .inr ⟨a,n,vs,rfl,rfl,ha,by omega,by omega,?_,fun p hp=>q _ _ (bF.upd hp) (dY S (Je r1 _) hp)⟩
  rw [sizeLine_eq,l1]
  have:xs.length * n.toNat≤1000 * 1000:=Nat.mul_le_mul hn.2.2 (by omega)
  omega
 ·exact .inl (o6 Z Θ env C σ H x y dx dy res S bx jh e Q q)
section
variable {X:Cx}
theorem xm (hc:X.calm=true):cD X (.type "list") (fun xs H Q=>∃z:Str,xs=[.str z]∧z.length≤sizeLine∧∀l,H l=none→Q (.ref l) (upd H l (.lst (z.cps.toList.map fun c=>V.str ⟨#[c]⟩)))):=by
 intro pins s σ H xs us Q I r h
 obtain ⟨z,rfl,hz,q⟩:=h
 obtain ⟨u,rfl,ru⟩:=vals1 r
 obtain ⟨t,rfl⟩:=ru
 refine call_list_str (I.ok.hd hc) z t (hn:=hz) fun h' tk acc c kk hS hacc=>?_
 refine ⟨.ref s.heap.objs.size,_,I.laid (o:=.lst (z.cps.toList.map fun c=>V.str ⟨#[c]⟩)) (t':=tk) kk (Nat.le_refl _) ⟨by rw [List.length_map]; exact hz,acc.toList,c,?_,by simpa using hS⟩,rfl,q _ (I.hok.fresh (Nat.le_refl _))⟩
 have hl:acc.size=z.cps.size:=hacc.1
 have key:∀(l:List Nat) (us:List Value),l.length=us.length→(∀(i:Nat) (v:Value),us[i]?=some v→∃c u,l[i]?=some c∧v=Value.str ⟨#[c]⟩ u)→Vals (l.map fun c=>V.str ⟨#[c]⟩) us:=by
  intro l
  induction l with
  | nil=>intro us hl _; cases us with | nil=>exact .nil | cons _ _=>cases hl
  | cons c l ih=>
   intro us hl hv
   cases us with
   | nil=>cases hl
   | cons u us=>
    obtain ⟨c',t',e1,e2⟩:=hv 0 u rfl
    cases (show some c=some c' from e1)
    exact .cons ⟨t',e2⟩ (ih us (by simpa using hl) fun i v e=>hv (i + 1) v (by simpa using e))
 refine key _ _ (by simp [hl]) fun i v e=>?_
 obtain ⟨c',u',e1,e2⟩:=hacc.2 i v (by simpa using e)
 exact ⟨c',u',by simpa using e1,e2⟩
noncomputable def uq:List PyData→Option Vl
 | [.str z]=>if z.length≤1000 then some (.ow (.list (chars z))) else none
 | _=>none
theorem Ox {K:PySem.W.Frag}:wY K (fun xs H Q=>∃z:Str,xs=[.str z]∧z.length≤sizeLine∧∀l,H l=none→Q (.ref l) (upd H l (.lst (z.cps.toList.map fun c=>V.str ⟨#[c]⟩)))) uq:=by
 intro Z Θ env C σ H xs ds res S b e Q q
 unfold uq at e
 split at e
 case h_2=>cases e
 rename_i z
 split at e
 case isFalse=>cases e
 rename_i hz
 cases e
 obtain ⟨v,rfl,bb⟩:=jl b
 cases bb.str
 refine ⟨z,rfl,by rw [sizeLine_eq]; omega,fun l hl=>q _ _ (bF.upd hl) (dY S ?_ hl)⟩
 have:=qg (H:=er (aK Z Θ env σ) H) (z.cps.toList.map fun c=>(⟨#[c]⟩:Str))
 rw [List.map_map,List.map_map] at this
 exact this
noncomputable def minD (d:Int):List Int→Int
 | []=>d
 | n::ns=>ns.foldl min n
theorem De (val:Nat→Int):∀k,val (argBest (fun i j=>decide (val i < val j)) k)=((List.range k).map fun i=>val (i + 1)).foldl min (val 0)
 | 0=>rfl
 | k + 1=>by
  rw [List.range_succ,List.map_append,List.foldl_append,←De val k]
  rw [show argBest (fun i j=>decide (val i < val j)) (k + 1)=if decide (val (k + 1) < val (argBest (fun i j=>decide (val i < val j)) k)) then k + 1 else argBest (fun i j=>decide (val i < val j)) k from rfl]
  by_cases h:val (k + 1) < val (argBest (fun i j=>decide (val i < val j)) k)
  ·rw [if_pos (decide_eq_true h)]
   show val (k + 1)=min _ (val (k + 1))
   omega
  ·rw [if_neg (by simpa using h)]
   show _=min _ (val (k + 1))
   omega
theorem Oz (ns:List Int) (h:0 < ns.length) (d:Int):ns.getD (argBest (fun i j=>decide (ns.getD i 0 < ns.getD j 0)) (ns.length - 1)) 0=minD d ns:=by
 have:=De (fun i=>ns.getD i 0) (ns.length - 1)
 rw [show ns.getD (argBest (fun i j=>decide (ns.getD i 0 < ns.getD j 0)) (ns.length - 1)) 0=_ from this]
 cases ns with
 | nil=>cases h
 | cons a as=>
  show _=as.foldl min a
  have e:(List.range ((a::as).length - 1)).map (fun i=>(a::as).getD (i + 1) 0)=as:=by
   rw [List.length_cons,Nat.add_sub_cancel]
   refine List.ext_getElem (by simp) fun i h1 h2=>?_
   simp [h2]
  rw [e]
  rfl
theorem Gm (hc:X.calm=true):cD X (.builtin "min") (fun xs H Q=>∃(p:Addr) (ns:List Int),xs=[.ref p]∧cO X.K H p (ns.map V.int)∧ns≠[]∧Q (.int (minD 0 ns)) H):=by
 intro pins s σ H xs us Q I r h
 obtain ⟨p,ns,rfl,hq,hne,q⟩:=h
 obtain ⟨u,rfl,rx⟩:=vals1 r
 cases rx
 obtain ⟨its,r',pl,hz⟩:=I.list hq
 have hi:IntsAre its ns:=intsAre_of r'
 have ln:its.length=ns.length:=hi.length
 have pos:0 < ns.length:=List.length_pos_iff.mpr hne
 have hl:=pl.isList
 have Tg:p < s.heap.objs.size:=by obtain ⟨o,ho,_⟩:=hl; exact Heap.lt_size ho
 have val:∀(i:Nat) (v:Value),its.toArray[i]?=some v→∃t,v=Value.int (ns.getD i 0) t:=fun i v hv=>IntsAre.int_at hi i v (by simpa using hv)
 have hh:=I.ok.hd hc
 refine call_min_walk (wpAny_pyIter_list hl ?_)
 refine ⟨_,_,_,_,_,_,_,rfl,Walks.list (prog:=X.prog) (w:=X.w) (A:=X.A.in1) (by simp [hh]) s.heap.objs.size p (Nat.ne_of_lt Tg) its.toArray,⟨⟨_,Heap.get?_push_size _ rfl,rfl,rfl⟩,hl.push _⟩,fun b hb=>?_,by rw [List.size_toArray,ln]; exact pos,CmpOf.ints_lt (fun i=>ns.getD i 0) val,fun v h' tk hP hk=>?_⟩
 ·rw [Heap.size_push]
  simp only [List.mem_cons,List.not_mem_nil,or_false] at hb
  rcases hb with rfl | rfl
  ·exact Nat.lt_succ_self _
  ·exact Nat.lt_succ_of_lt Tg
 ·rw [List.size_toArray,ln] at hP
  obtain ⟨t,e⟩:=val _ v hP
  rw [Oz ns pos 0] at e
  subst e
  refine ⟨.int _,H,I.kept (t':=tk) fun b o e=>hk b o ?_ (Heap.get?_push_of_some _ e),⟨_,rfl⟩,q⟩
  simp only [List.mem_cons,List.not_mem_nil,or_false]
  exact Nat.ne_of_lt (Heap.lt_size e)
noncomputable def sr:List PyData→Option Vl
 | [.list ds]=>match intsOf ds with
  | some (n::ns)=>some (.im (.int (minD 0 (n::ns))))
  | _=>none
 | _=>none
theorem RJ {K:PySem.W.Frag}:wY K (fun xs H Q=>∃(p:Addr) (ns:List Int),xs=[.ref p]∧cO K H p (ns.map V.int)∧ns≠[]∧Q (.int (minD 0 ns)) H) sr:=by
 intro Z Θ env C σ H xs ds res S b e Q q
 unfold sr at e
 split at e
 case h_2=>cases e
 rename_i ds
 split at e
 case h_2=>cases e
 rename_i n ns hns
 cases e
 obtain ⟨v,rfl,bb⟩:=jl b
 obtain ⟨a,vs,rfl,ha,r⟩:=bb.lst
 rw [jW hns r] at ha
 exact ⟨a,_,rfl,cO.of ha,(fun z=>nomatch z),q _ H (bF.refl _ _) (aZ S rfl rfl)⟩
end
end L2
namespace K09
open PySem L2
noncomputable def top (i:Nat):Stmt:=PySem.Challenge.pw_rankseals_k09_strange_names_and_far_days.main.body.getD i (.Pass ⟨0,0,0,0⟩)
noncomputable abbrev dj:Stmt:=top 1
theorem gA:bY (["house","part","outer","over"]:List Str) (["house","part"]:List Str) (aC dj):=⟨rfl,rfl,rfl,by decide +kernel,rfl,by decide +kernel,by decide +kernel⟩
noncomputable abbrev gf:Stmt:=top 3
theorem pH:bY (["house","person","part","day","over","held"]:List Str) (["house","person","part","day"]:List Str) (aC gf):=⟨rfl,rfl,rfl,by decide +kernel,rfl,by decide +kernel,by decide +kernel⟩
noncomputable abbrev cM:Stmt:=top 4
theorem oO:bY (["house","rank","part","day","people"]:List Str) (["house","rank","part","day"]:List Str) (aC cM):=⟨rfl,rfl,rfl,by decide +kernel,rfl,by decide +kernel,by decide +kernel⟩
noncomputable abbrev dz:Stmt:=top 6
theorem vJ:bY ([]:List Str) ([]:List Str) (aC dz):=⟨rfl,rfl,rfl,by decide +kernel,rfl,by decide +kernel,by decide +kernel⟩
noncomputable abbrev dU:Stmt:=top 8
theorem jn:bY (["house","part","amount","fitting","bound","seats"]:List Str) (["house","part","amount"]:List Str) (aC dU):=⟨rfl,rfl,rfl,by decide +kernel,rfl,by decide +kernel,by decide +kernel⟩
noncomputable abbrev dW:Stmt:=top 9
theorem kW:bY (["house","part","name","found"]:List Str) (["house","part"]:List Str) (aC dW):=⟨rfl,rfl,rfl,by decide +kernel,rfl,by decide +kernel,by decide +kernel⟩
noncomputable abbrev su:Stmt:=top 11
theorem Ad:bY (["_law_script","_law_k","_law_cell"]:List Str) (["_law_script","_law_k"]:List Str) (aC su):=⟨rfl,rfl,rfl,by decide +kernel,rfl,by decide +kernel,by decide +kernel⟩
noncomputable abbrev nU:Stmt:=top 12
theorem vK:bY (["_law_box_here","_law_many_here","_law_found","_law_once"]:List Str) (["_law_box_here","_law_many_here"]:List Str) (aC nU):=⟨rfl,rfl,rfl,by decide +kernel,rfl,by decide +kernel,by decide +kernel⟩
noncomputable abbrev fQ:Stmt:=top 13
theorem gh:bY (["_law_box_here","_law_many_here","_law_letters","_law_found","_law_k","_law_size","_law_name"]:List Str) (["_law_box_here","_law_many_here"]:List Str) (aC fQ):=⟨rfl,rfl,rfl,by decide +kernel,rfl,by decide +kernel,by decide +kernel⟩
noncomputable abbrev sy:Stmt:=top 14
theorem Jg:bY (["_law_box_here","_law_way"]:List Str) (["_law_box_here"]:List Str) (aC sy):=⟨rfl,rfl,rfl,by decide +kernel,rfl,by decide +kernel,by decide +kernel⟩
noncomputable abbrev sE:Stmt:=top 15
theorem RK:bY (["_law_box_here"]:List Str) (["_law_box_here"]:List Str) (aC sE):=⟨rfl,rfl,rfl,by decide +kernel,rfl,by decide +kernel,by decide +kernel⟩
noncomputable abbrev gj:Stmt:=top 16
theorem gP:bY (["_law_box_here","_law_many_here","_law_found","_law_next_one","_law_k"]:List Str) (["_law_box_here","_law_many_here"]:List Str) (aC gj):=⟨rfl,rfl,rfl,by decide +kernel,rfl,by decide +kernel,by decide +kernel⟩
noncomputable abbrev nW:Stmt:=top 17
theorem OD:bY (["_law_box_here","_law_most"]:List Str) (["_law_box_here","_law_most"]:List Str) (aC nW):=⟨rfl,rfl,rfl,by decide +kernel,rfl,by decide +kernel,by decide +kernel⟩
noncomputable abbrev jd:Stmt:=top 18
theorem sG:bY (["_law_box_here","_law_names_here","_law_rows","_law_k"]:List Str) (["_law_box_here","_law_names_here"]:List Str) (aC jd):=⟨rfl,rfl,rfl,by decide +kernel,rfl,by decide +kernel,by decide +kernel⟩
noncomputable abbrev gQ:Stmt:=top 19
theorem bR:bY (["_law_box_here","_law_names_here","_law_parts_here","_law_own","_law_ranks","_law_leaves","_law_rules","_law_number","_law_days","_law_who","_law_where","_law_at","_law_taker","_law_k","_law_key","_law_seats","_law_j","_law_part","_law_rows"]:List Str) (["_law_box_here","_law_names_here"]:List Str) (aC gQ):=⟨rfl,rfl,rfl,by decide +kernel,rfl,by decide +kernel,by decide +kernel⟩
noncomputable abbrev jo:Stmt:=top 20
theorem OJ:bY (["_law_found","_law_due"]:List Str) (["_law_found","_law_due"]:List Str) (aC jo):=⟨rfl,rfl,rfl,by decide +kernel,rfl,by decide +kernel,by decide +kernel⟩
noncomputable abbrev fB:Stmt:=top 21
theorem mV:bY (["_law_house_here","_law_people","_law_part","_law_day_here","_law_found"]:List Str) (["_law_house_here","_law_people","_law_part","_law_day_here"]:List Str) (aC fB):=⟨rfl,rfl,rfl,by decide +kernel,rfl,by decide +kernel,by decide +kernel⟩
noncomputable abbrev gR:Stmt:=top 22
theorem dm:bY (["_law_script","_law_k","_law_box_here","_law_names_here","_law_house_here","_law_kept","_law_own","_law_holders","_law_people","_law_day_here","_law_name","_law_part","_law_some","_law_person","_law_early","_law_late","_law_found"]:List Str) (["_law_script"]:List Str) (aC gR):=⟨rfl,rfl,rfl,by decide +kernel,rfl,by decide +kernel,by decide +kernel⟩
structure Txt (K:PySem.W.Frag) (mg:Str→Option Value):Prop where
 yH:mg "abs"=none
 yI:mg "all"=none
 pI:mg "bool"=none
 yJ:mg "int"=none
 bu:mg "isinstance"=none
 jq:mg "len"=none
 mW:mg "list"=none
 vL:mg "max"=none
 yK:mg "min"=none
 fU:mg "range"=none
 sH:mg "repr"=none
 Df:mg "set"=none
 eG:mg "sorted"=none
 yL:mg "str"=none
 dZ:mg "tuple"=none
 Dg:mg "zip"=none
@[reducible] noncomputable def lN:FT:=(fTst (aG BL (aF 1) (aF 2)))
@[reducible] noncomputable def lO:FS:=(fSeq (oA 3 (fVar 1)) (fSet 1 (aG bz (aF 2) (aF 1))))
@[reducible] noncomputable def ie:FE:=(fVar 0)
@[reducible] noncomputable def ir:FE:=(fVar 1)
@[reducible] noncomputable def kY:FS:=(fSeq (fSet 2 (Yg (iB2 (aB (aG bz (aF 0) (aB (fCst (.int 0)))))) (.many 2) dN ie ir [])) (fSeq (fSet 3 (fLst aNil)) (fSeq (fWh lN lO) (fRetV 3))))
noncomputable def cA:FN:=fN 2 4 kY
@[reducible] noncomputable def kZ:FT:=(qt (fTst (aG o7 (aF 1) (aF 6))) (qt (fTst (aG BL (aF 3) (aF 7))) (fTst (Fi wX wX (aF 4) (aF 8) (aF 5)))))
@[reducible] noncomputable def lg:FE:=(fVar 2)
@[reducible] noncomputable def sI:FS:=(fSeq (fSet 4 (fCal cA (aCons (fVar 0) (aCons (fVar 2) aNil)))) (fSeq (fSet 5 (fLC (iB2 (aB (aG bz (aF 0) (aB (fCst (.int 1)))))) (.many 6) kZ lg [1,4,3])) (fRet (Im (aF 5) (aB (fCst (.int 0)))))))
noncomputable def dB:FN:=fN 4 6 sI
@[reducible] noncomputable def lQ:FT:=(fTst (aG M5 (aB (fCal dB (aCons (fVar 1) (aCons (fVar 0) (aCons (fVar 2) (aCons (fVar 3) aNil)))))) (aF 4)))
@[reducible] noncomputable def lR:FE:=(fVar 0)
@[reducible] noncomputable def iu:FE:=(aG bz (aF 0) (aB (fCst (.int 1))))
@[reducible] noncomputable def lq:FS:=(fSeq (fSet 4 (Yl (iB (aB (aG bz (aF 0) (aB (fCst (.int 1)))))) .one dN iu [])) (fRet (fLC (iB (aF 4)) .one lQ lR [0,2,3,1])))
noncomputable def cB:FN:=fN 4 5 lq
@[reducible] noncomputable def oR:FS:=(fRet (fTup (aCons (fTup aNil) (aCons (fTup aNil) (aCons (fTup aNil) (aCons (fTup aNil) aNil))))))
noncomputable def eN:FN:=fN 0 0 oR
@[reducible] noncomputable def vM:FT:=(fTst (aG o7 (aF 0) (aF 3)))
@[reducible] noncomputable def vN:FE:=(fTup (aCons (fVar 1) (aCons (fVar 2) aNil)))
@[reducible] noncomputable def vO:FS:=(fSeq (fSet 3 (fLC (iB2 (aB (aG bz (aF 0) (aB (fCst (.int 3)))))) (.many 3) vM vN [2])) (jg (fTru (aF 3)) (fRetV 3) fNext))
@[reducible] noncomputable def mX:FS:=(fSeq (fK (iV (fCal cA (aCons (fVar 0) (aCons (fVar 1) aNil)))) (gNm 2) vO) (fRet (fLst aNil)))
noncomputable def gU:FN:=fN 2 4 mX
@[reducible] noncomputable def xq:FE:=(fTup (aCons (fVar 0) (aCons (J7 (fTst (aG o7 (aF 1) (aB (fCst (.str (Str.ofString "")))))) (fVar 2) (fVar 1)) aNil)))
@[reducible] noncomputable def xu:FT:=(fTst (aG wX (aF 0) (aF 2)))
@[reducible] noncomputable def xx:FE:=(fTup (aCons (fVar 0) (aCons (fVar 1) aNil)))
@[reducible] noncomputable def pJ:FS:=(fSeq (fSet 3 (fLC (iB2 (aB (fCal gU (aCons (fVar 0) (aCons (fVar 1) aNil))))) (.many 2) xu xx [2])) (fSeq (jg (oH (fTru (aF 3))) (fRet (fTup aNil)) fNext) (fSeq (fUnp fNo (gTp 2 (gsCons (gNm 4) (gsCons (gNm 5) gsNil)))) (fRet (fFun gr (bCons (aB (fLC (iB2 (aF 5)) (.many 2) dN xq [1])) bNil))))))
noncomputable def gk:FN:=fN 3 6 pJ
@[reducible] noncomputable def Gn:FS:=(fSeq (fSet 2 (fCst (.int 0))) (fSeq (jg (fTst (aG Fd (aF 1) (aB (tG 0)))) (fSet 2 (NQ 0 (aF 1))) fNext) (fRet (fLst (aCons (aG lK (aB (fFun Cp (bCons (aF 2) bNil))) (aB (fFun Ig (bCons (aB (aG M5 (aB (fFun Cp (bCons (aF 2) bNil))) (aB (aG lJ (aB (fCst (.int 10))) (aB (fCst (.int 18))))))) bNil)))) (aCons (aG bf (aB (aG bf (aB (aG lH (aF 2) (aB (fCst (.int 2147483629))))) (aB (aG lK (aB (fCst (.int 7919))) (aF 1))))) (aB (fCst (.int 11)))) (aCons (fCst (.int 0)) aNil)))))))
noncomputable def vP:FN:=fN 2 3 Gn
@[reducible] noncomputable def ur:FS:=(fSeq (jg (fTst (aG QV (aB (vm 0 (aB (fCst (.int 0))))) (aB (fCst (.int 0))))) (fSeq (fSet 2 (aG lH (aB (vm 0 (aB (fCst (.int 0))))) (aF 1))) (fSeq (Cj 0 (aB (fCst (.int 0))) (aG rE (aB (vm 0 (aB (fCst (.int 0))))) (aF 1))) (fRetV 2))) fNext) (fSeq (Cj 0 (aB (fCst (.int 2))) (aG bf (aB (vm 0 (aB (fCst (.int 2))))) (aB (fCst (.int 1))))) (fSeq (fSet 3 (aG lH (aB (aG lJ (aB (aG bf (aB (vm 0 (aB (fCst (.int 1))))) (aB (aG lK (aB (fCst (.int 39373))) (aB (vm 0 (aB (fCst (.int 2))))))))) (aB (fCst (.int 5))))) (aB (fCst (.int 2147483647))))) (fRet (aG lH (aB (aG rE (aB (aG lH (aB (aG bf (aB (aG lK (aF 3) (aB (aG bf (aB (aG lH (aF 3) (aB (fCst (.int 40009))))) (aB (fCst (.int 7))))))) (aB (aG lK (aB (vm 0 (aB (fCst (.int 2))))) (aB (fCst (.int 7919))))))) (aB (fCst (.int 2147483629))))) (aB (fCst (.int 64))))) (aF 1))))))
noncomputable def aM:FN:=fN 2 4 ur
@[reducible] noncomputable def tM:FE:=(aG bf (aB (PJ (aF 1) Rh (Pz (aB (fCst (.int 7)))))) (aF 0))
@[reducible] noncomputable def tO:FT:=(fTst (aG iI (aF 0) (aF 1)))
@[reducible] noncomputable def tQ:FE:=(fVar 0)
@[reducible] noncomputable def mY:FE:=(aG bz (aF 1) (aB (fCal aM (aCons (fVar 2) (aCons (fCst (.int 26)) aNil)))))
@[reducible] noncomputable def jr:FS:=(fSeq (fSet 5 (aG bz (aB (fLst (aCons (fCst (.int 1)) (aCons (fCst (.int 8)) (aCons (fCst (.int 2)) aNil))))) (aB (fCal aM (aCons (fVar 0) (aCons (fCst (.int 3)) aNil)))))) (fSeq (fSet 6 (Io (aB (fCst (.str (Str.ofString "")))) (aB (fLC (Dv (aF 5)) .one dN mY [2,0])))) (fSeq (jg (qt (fTst (aG o7 (aB (fCal aM (aCons (fVar 0) (aCons (fCst (.int 3)) aNil)))) (aB (fCst (.int 0))))) (fTst (aG t6 (aF 3) (aB (fLst aNil))))) (fSet 6 (aG bf (aB (PJ (aB (aG bz (aF 3) (aB (fCal aM (aCons (fVar 0) (aCons (fFun jX (bCons (aF 3) bNil)) aNil)))))) Rh (Pz (aB (fCst (.int 7)))))) (aB (aG bz (aF 2) (aB (fCal aM (aCons (fVar 0) (aCons (fCst (.int 26)) aNil)))))))) fNext) (oA 3 (aG bz (aB (fLC (iB (aB (aG bf (aB (fLst (aCons (fVar 6) aNil))) (aB (fLC (iB (aF 2)) .one dN tM [6]))))) .one tO tQ [3])) (aB (fCst (.int 0))))))))
@[reducible] noncomputable def vQ:FS:=(fSeq (fSet 2 (fCst (.str (Str.ofString "abcdefghijklmnopqrstuvwxyz")))) (fSeq (fSet 3 (fLst aNil)) (fSeq (fK (Dv (aF 1)) (gNm 4) jr) (fRetV 3))))
noncomputable def mZ:FN:=fN 2 7 vQ
@[reducible] noncomputable def Gp:FS:=(fSeq (fSet 1 (aG bz (aB (fLst (aCons (fCst (.int 0)) (aCons (fCst (.int 0)) (aCons (fCst (.int 0)) (aCons (fCst (.int 1)) (aCons (fCst (.int 1)) (aCons (fCst (.int 2)) aNil)))))))) (aB (fCal aM (aCons (fVar 0) (aCons (fCst (.int 6)) aNil)))))) (fRet (aG bz (aB (fLst (aCons (fCal aM (aCons (fVar 0) (aCons (fCst (.int 12)) aNil))) (aCons (fCal aM (aCons (fVar 0) (aCons (fCst (.int 40)) aNil))) (aCons (aG yg (aB (fCst (.int 99999))) (aB (fCal aM (aCons (fVar 0) (aCons (fCst (.int 99999)) aNil))))) aNil))))) (aF 1))))
noncomputable def jJ:FN:=fN 1 2 Gp
@[reducible] noncomputable def Gq:FS:=(fRet (aG bz (aB (fLst (aCons (fCal aM (aCons (fVar 0) (aCons (fCst (.int 9)) aNil))) (aCons (aG lK (aB (fCst (.int 10))) (aB (fCal aM (aCons (fVar 0) (aCons (fCst (.int 20)) aNil))))) (aCons (aG yg (aB (aG lJ (aB (fCst (.int 10))) (aB (fCst (.int 9))))) (aB (fCal aM (aCons (fVar 0) (aCons (fCst (.int 3)) aNil))))) aNil))))) (aB (aG bz (aB (fLst (aCons (fCst (.int 0)) (aCons (fCst (.int 1)) (aCons (fCst (.int 1)) (aCons (fCst (.int 1)) (aCons (fCst (.int 2)) aNil))))))) (aB (fCal aM (aCons (fVar 0) (aCons (fCst (.int 5)) aNil))))))))
noncomputable def sJ:FN:=fN 1 1 Gq
@[reducible] noncomputable def jK:FS:=(fSeq (fSet 3 (aG bf (aF 3) (aB (aG bz (aB (fLst (aCons (fCst (.int 0)) (aCons (fCst (.int 0)) (aCons (aG bf (aB (fCst (.int 1))) (aB (fCal aM (aCons (fVar 0) (aCons (fCst (.int 9)) aNil))))) aNil))))) (aB (fCal aM (aCons (fVar 0) (aCons (fCst (.int 3)) aNil)))))))) (fSeq (oA 2 (fVar 3)) (fSet 3 (aG bf (aF 3) (aB (fCst (.int 1)))))))
@[reducible] noncomputable def pK:FS:=(fSeq (fPar [2,3] (oCons (fLst aNil) (oCons (fCst (.int 0)) aNil))) (fSeq (fK (Dv (aF 1)) (gNm 4) jK) (fRetV 2)))
noncomputable def gm:FN:=fN 2 5 pK
@[reducible] noncomputable def uv:FS:=(fRet (J7 (fTst (aG o7 (aB (fCal aM (aCons (fVar 0) (aCons (fCst (.int 3)) aNil)))) (aB (fCst (.int 0))))) (fVar 1) (fCal aM (aCons (fVar 0) (aCons (aG bf (aF 1) (aB (fCst (.int 1)))) aNil)))))
noncomputable def gB:FN:=fN 2 2 uv
@[reducible] noncomputable def tR:FE:=(aG bz (aF 0) (aB (fCst (.int 0))))
@[reducible] noncomputable def ni:FS:=(oA 2 (fTup (aCons (aG bz (aF 1) (aF 3)) (aCons (aG bz (aB (aG bf (aB (fLst (aCons (fCst (.str (Str.ofString ""))) aNil))) (aB (fLC (iB (aF 2)) .one dN tR [])))) (aB (fCal aM (aCons (fVar 0) (aCons (aG bf (aF 3) (aB (fCst (.int 1)))) aNil))))) aNil))))
@[reducible] noncomputable def vR:FS:=(fSeq (fSet 2 (fLst aNil)) (fSeq (fK (Dv (aB (fFun zQ (bCons (aB (fCst (.int 1))) (bCons (aB (fCal gB (aCons (fVar 0) (aCons (fCst (.int 8)) aNil)))) bNil))))) (gNm 3) ni) (fRetV 2)))
noncomputable def nj:FN:=fN 2 4 vR
@[reducible] noncomputable def jt:FE:=(aG bf (aF 0) (aB (fTup (aCons (aG bz (aF 1) (aF 0)) aNil))))
@[reducible] noncomputable def nq:FS:=(fSeq (fSet 17 (aG bz (aB (aG bf (aB (fLst (aCons (fCst (.str (Str.ofString ""))) (aCons (fCst (.str (Str.ofString ""))) aNil)))) (aF 3))) (aB (fCal aM (aCons (fVar 0) (aCons (aG bf (aB (fCst (.int 2))) (aB (fFun jX (bCons (aF 3) bNil)))) aNil)))))) (oA 15 (fTup (aCons (aG bf (aB (fCst (.int 1))) (aB (fCal aM (aCons (fVar 0) (aCons (aG bz (aB (fLst (aCons (fCst (.int 9)) (aCons (fCst (.int 3)) aNil)))) (aB (fCal aM (aCons (fVar 0) (aCons (fCst (.int 2)) aNil))))) aNil))))) (aCons (fVar 17) aNil)))))
@[reducible] noncomputable def ju:FS:=(fSeq (fPar [14,15] (oCons (fTup (aCons (aG bz (aF 3) (aB (fCal aM (aCons (fVar 0) (aCons (fFun jX (bCons (aF 3) bNil)) aNil))))) (aCons (fCal sJ (aCons (fVar 0) aNil)) aNil))) (oCons (fLst aNil) aNil))) (fSeq (fK (Dv (aB (fCal gB (aCons (fVar 0) (aCons (fCst (.int 6)) aNil))))) (gNm 16) nq) (Cj 6 (aF 14) (fFun gr (bCons (aF 15) bNil)))))
@[reducible] noncomputable def jw:FS:=(fSeq (fPar [8,11] (oCons (fFun dI (bCons (aB (fLst (aCons (fCal jJ (aCons (fVar 0) aNil)) (aCons (fCal jJ (aCons (fVar 0) aNil)) aNil)))) bNil)) (oCons (fCal aM (aCons (fVar 0) (aCons (fCst (.int 9)) aNil))) aNil))) (fSeq (fPar [12,10] (oCons (aG bz (aF 1) (aB (aG lH (aB (aG bf (aB (aG bf (aF 11) (aB (fCst (.int 1))))) (aB (fCal aM (aCons (fVar 0) (aCons (fCst (.int 8)) aNil)))))) (aB (fCst (.int 9)))))) (oCons (aG bz (aF 3) (aB (fCal aM (aCons (fVar 0) (aCons (fFun jX (bCons (aF 3) bNil)) aNil))))) aNil))) (oA 5 (fTup (aCons (fVar 7) (aCons (aG bz (aF 1) (aF 11)) (aCons (fVar 12) (aCons (fVar 10) (aCons (aG bz (aF 8) (aB (fCst (.int 0)))) (aCons (aG bz (aF 8) (aB (fCst (.int 1)))) (aCons (fCal sJ (aCons (fVar 0) aNil)) aNil)))))))))))
@[reducible] noncomputable def jx:FS:=(fSeq (fSet 8 (fFun dI (bCons (aB (fLst (aCons (fCal jJ (aCons (fVar 0) aNil)) (aCons (fCal jJ (aCons (fVar 0) aNil)) aNil)))) bNil))) (fSeq (fPar [9,10] (oCons (aG bz (aF 1) (aB (fCal aM (aCons (fVar 0) (aCons (fCst (.int 9)) aNil))))) (oCons (aG bz (aF 3) (aB (fCal aM (aCons (fVar 0) (aCons (fFun jX (bCons (aF 3) bNil)) aNil))))) aNil))) (oA 4 (fTup (aCons (fVar 7) (aCons (fVar 9) (aCons (aG bf (aB (fCst (.int 1))) (aB (fCal aM (aCons (fVar 0) (aCons (aG bz (aB (fLst (aCons (fCst (.int 9)) (aCons (fCst (.int 3)) aNil)))) (aB (fCal aM (aCons (fVar 0) (aCons (fCst (.int 2)) aNil))))) aNil))))) (aCons (fVar 10) (aCons (aG bz (aF 8) (aB (fCst (.int 0)))) (aCons (aG bz (aF 8) (aB (fCst (.int 1)))) aNil))))))))))
@[reducible] noncomputable def tU:FE:=(aG bz (aF 0) (aB (fCst (.int 0))))
@[reducible] noncomputable def vU:FS:=(fSeq (fSet 2 (fCal nj (aCons (fVar 0) (aCons (fVar 1) aNil)))) (fSeq (fPar [3,4,5,6] (oCons (fLC (iB (aF 2)) .one dN tU []) (oCons (fLst aNil) (oCons (fLst aNil) (oCons Fj aNil))))) (fSeq (fK (iV (fCal gm (aCons (fVar 0) (aCons (fCal gB (aCons (fVar 0) (aCons (fCst (.int 20)) aNil))) aNil)))) (gNm 7) jx) (fSeq (fK (iV (fCal gm (aCons (fVar 0) (aCons (fCal gB (aCons (fVar 0) (aCons (fCst (.int 16)) aNil))) aNil)))) (gNm 7) jw) (fSeq (fK (Dv (aB (fCal gB (aCons (fVar 0) (aCons (fCst (.int 10)) aNil))))) (gNm 13) ju) (fSeq (fSet 18 (fLC (iB (aB (fFun dI (bCons (aF 6) bNil)))) .one dN jt [6])) (fRet (fTup (aCons (fVar 2) (aCons (fTup (aCons (fFun gr (bCons (aB (fFun dI (bCons (aF 2) bNil))) bNil)) (aCons (fFun gr (bCons (aF 4) bNil)) (aCons (fFun gr (bCons (aF 5) bNil)) (aCons (fFun gr (bCons (aF 18) bNil)) aNil))))) aNil))))))))))
noncomputable def nu:FN:=fN 2 19 vU
@[reducible] noncomputable def vV (Ae:FN):FE:=(fCal Ae (aCons (fVar 0) (aCons (fVar 1) aNil)))
@[reducible] noncomputable def Af (Ae:FN):FS:=(fSeq (jg (fTst (aG BJ (aF 1) (aB (fCst .none)))) (fRet (aG BJ (aF 0) (aB (fCst .none)))) fNext) (fSeq (jg (fTru (aB (rM "bool" (aF 1)))) (fRet (tD (rM "bool" (aF 0)) (aG o7 (aF 0) (aF 1)))) fNext) (fSeq (jg (fTru (aB (Ii "list" "tuple" (aF 1)))) (fSeq (jg (Ff (fTst (aG t6 (aB (rM "list" (aF 0))) (aB (rM "list" (aF 1))))) (fTst (aG t6 (aB (rM "tuple" (aF 0))) (aB (rM "tuple" (aF 1)))))) (fRet (fCst (.bool false))) fNext) (fRet (tD (aG o7 (aB (fFun jX (bCons (aF 0) bNil))) (aB (fFun jX (bCons (aF 1) bNil)))) (fFun yo (bCons (aB (fLC (We (bCons (aF 0) (bCons (aF 1) bNil))) (.many 2) dN (vV Ae) [])) bNil))))) fNext) (fSeq (jg (fTru (aB (rM "str" (aF 1)))) (fRet (tD (rM "str" (aF 0)) (aG o7 (aF 0) (aF 1)))) fNext) (fRet (tD (rM "int" (aF 0)) (tD (Nj (rM "bool" (aF 0))) (aG o7 (aF 0) (aF 1)))))))))
noncomputable def cj:Nat→FN
 | 0=>Oh
 | n + 1=>fN 2 2 (Af (cj n))
@[reducible] noncomputable def jL:FE:=(fCal (cj 3) (aCons (fCal dB (aCons (fVar 1) (aCons (fVar 0) (aCons (fVar 2) (aCons (fVar 3) aNil))))) (aCons (fCst (.int 0)) aNil)))
@[reducible] noncomputable def pL:FS:=(fSeq (fSet 4 (fLst (aCons (fCal cA (aCons (fVar 0) (aCons (fVar 2) aNil))) (aCons (fCal cB (aCons (fVar 0) (aCons (fCst (.int 1)) (aCons (fVar 2) (aCons (fVar 3) aNil))))) (aCons (fCal cB (aCons (fVar 0) (aCons (fCst (.int 9)) (aCons (fVar 2) (aCons (fVar 3) aNil))))) aNil))))) (fSeq (fSet 4 (aG bf (aF 4) (aB (fLst (aCons (fCal gk (aCons (fVar 0) (aCons (fVar 2) (aCons (fCst (.int 0)) aNil)))) (aCons (fCal gk (aCons (fVar 0) (aCons (fVar 2) (aCons (aG lJ (aB (fCst (.int 10))) (aB (fCst (.int 9)))) aNil)))) aNil)))))) (fSeq (jg (oH (fTru (aB (fCal (cj 3) (aCons (fVar 4) (aCons (fLst (aCons (fLst aNil) (aCons (fLst aNil) (aCons (fLst aNil) (aCons (fTup aNil) (aCons (fTup aNil) aNil)))))) aNil)))))) (fRet (fCst (.bool false))) fNext) (fRet (fFun yo (bCons (aB (fLC (iB (aF 1)) .one dN jL [0,2,3])) bNil))))))
noncomputable def gn:FN:=fN 4 5 pL
@[reducible] noncomputable def vW:FT:=(fTst (Fi wX Fd (aB (fCst (.int 0))) (aF 0) (aB (fCst (.int 100000)))))
@[reducible] noncomputable def vX:FE:=(fVar 0)
@[reducible] noncomputable def vY:FE:=(fCal dB (aCons (fVar 1) (aCons (fVar 0) (aCons (fVar 2) (aCons (fVar 3) aNil)))))
@[reducible] noncomputable def qI:FS:=(fSeq (fSet 16 (aG bf (aB (fLst (aCons (fCal cB (aCons (fVar 4) (aCons (fCst (.int 1)) (aCons (fVar 11) (aCons (fVar 9) aNil))))) aNil))) (aB (fLC (iB (aF 8)) .one dN vY [4,11,9])))) (jg (oH (fTru (aB (fCal (cj 3) (aCons (fVar 16) (aCons (aG bf (aB (fLst (aCons (fLst aNil) aNil))) (aB (aG rZ (aB (fLst (aCons (fCst (.int 0)) aNil))) (aB (fFun jX (bCons (aF 8) bNil)))))) aNil)))))) (fRet (fCst (.bool false))) fNext))
@[reducible] noncomputable def nA:FS:=(fK (iV (fVar 6)) (gNm 11) qI)
@[reducible] noncomputable def Dh:FE:=(aG bz (aF 0) (aB (fCst (.int 5))))
@[reducible] noncomputable def Di:FE:=(aG bz (aF 0) (aB (fCst (.int 4))))
@[reducible] noncomputable def vZ:FT:=(fTst (aG iI (aF 0) (aF 1)))
@[reducible] noncomputable def wg:FE:=(fVar 0)
@[reducible] noncomputable def qJ:FS:=(jg (Ff (oH (fTru (aB (fCal (cj 3) (aCons (fCal dB (aCons (fVar 4) (aCons (fVar 13) (aCons (fVar 11) (aCons (fVar 9) aNil))))) (aCons (fCst (.int 0)) aNil)))))) (fTst (aG BL (aF 13) (aF 12)))) (fRet (fCst (.bool false))) fNext)
@[reducible] noncomputable def qK:FS:=(fSeq (fSet 12 (fCal cB (aCons (fVar 4) (aCons (fCst (.int 1)) (aCons (fVar 11) (aCons (fVar 9) aNil)))))) (fK (iV (fLC (iB (aF 8)) .one vZ wg [7])) (gNm 13) qJ))
@[reducible] noncomputable def wj:FT:=(fTst (aG iI (aF 0) (aF 1)))
@[reducible] noncomputable def wu:FE:=(fVar 0)
@[reducible] noncomputable def qL:FS:=(fSeq (jg (oH (fTru (aB (fCal gn (aCons (fVar 4) (aCons (PJ (aF 8) Rh (Pz (aB (fCst (.int 4))))) (aCons (fVar 10) (aCons (fVar 9) aNil)))))))) (fRet (fCst (.bool false))) fNext) (jg (oH (fTru (aB (fCal gn (aCons (fCal eN aNil) (aCons (PJ (aF 8) Rh (Pz (aB (fCst (.int 2))))) (aCons (fVar 10) (aCons (fVar 9) aNil)))))))) (fRet (fCst (.bool false))) fNext))
@[reducible] noncomputable def nC:FS:=(fSeq (fK (iV (aG rZ (aB (fLC (iB (aB (aG bf (aF 8) (aB (fFun uq (bCons (aB (fCst (.str (Str.ofString "abcdef")))) bNil)))))) .one wj wu [6])) (aB (fCst (.int 2))))) (gNm 10) qL) (fK (iV (fVar 6)) (gNm 11) qK))
@[reducible] noncomputable def Dj:FE:=(aG bz (aF 0) (aB (fCst (.int 1))))
@[reducible] noncomputable def Dk:FE:=(aG bz (aF 0) (aB (fCst (.int 0))))
@[reducible] noncomputable def qM:FS:=(fSeq (Nr 2 (fCal vP (aCons (fVar 0) (aCons (fVar 1) aNil)))) (fSeq (fSet 3 (fCal mZ (aCons (fVar 2) (aCons (fCst (.int 9)) aNil)))) (fSeq (fSet 4 (aG bz (aB (fCal nu (aCons (fVar 2) (aCons (fVar 3) aNil)))) (aB (fCst (.int 1))))) (fSeq (fPar [5,6] (oCons (fFun rK (bCons (aF 4) bNil)) (oCons (fLC (iB (aB (aG bz (aF 4) (aB (fCst (.int 0)))))) .one dN Dk []) aNil))) (fSeq (fSet 7 (fLC (iB (aB (aG bz (aF 4) (aB (fCst (.int 1)))))) .one dN Dj [])) (fSeq (fSet 8 (Il (aB (aG bf (aB (aG bf (aB (aG bf (aF 7) (aF 3))) (aF 6))) (aB (fLst (aCons (fCst (.str (Str.ofString "qqqqqqqq"))) aNil))))))) (fSeq (fK (iV (fTup (aCons (fCst (.int 0)) (aCons (fCst (.int 99999)) (aCons (fCal jJ (aCons (fVar 2) aNil)) aNil))))) (gNm 9) nC) (fSeq (fSet 14 (aG yg (aB (fFun sr (bCons (aB (aG bf (aB (fLC (iB (aB (aG bz (aF 4) (aB (fCst (.int 1)))))) .one dN Di [])) (aB (fLst (aCons (fCst (.int 99999)) aNil))))) bNil))) (aB (fCst (.int 1))))) (fSeq (fSet 15 (aG bf (aB (fFun rP (bCons (aB (aG bf (aB (fLC (iB (aB (aG bz (aF 4) (aB (fCst (.int 1)))))) .one dN Dh [])) (aB (fLst (aCons (fCst (.int 0)) aNil))))) bNil))) (aB (fCst (.int 1))))) (fSeq (fK (iV (fLC (iB (aB (fTup (aCons (fVar 14) (aCons (fVar 15) aNil))))) .one vW vX [])) (gNm 9) nA) (jg (fTst (aG t6 (aB (fFun rK (bCons (aF 4) bNil))) (aF 5))) (fRet (fCst (.bool false))) fNext)))))))))))
@[reducible] noncomputable def O1:FS:=(fSeq (fK (Dv (aB (aG bf (aB (fCst (.int 1))) (aB (fFun zR (bCons (aB (fCst (.int 6))) (bCons (aB (tG 0)) bNil))))))) (gNm 1) qM) (fRet (fCst (.bool true))))
noncomputable def yM:FN:=fN 1 17 O1
theorem xF {P:Program} {w:World} {K:PySem.W.Frag} {mg:Str→Option Value} {base:Heap} {f:Addr} {fd:FuncData} (F:tZ K "parts_over" "parts_over" dj f fd) (T:Txt K mg):dM P w K mg base qO 1 f fd (["house","part"]:List Str) (spT K cA):=
 fY (body:=kY) F gA fun cdv A outer s H E hr=>(aD (Ob (i:=2) (T:=(.many 2)) (NT:=(["name","within"]:List Str)) (NF:=([]:List Str)) (js:=[]) (iQ.ok (N0:=(["house","part","outer","over"]:List Str)) (qP:=aC dj) (by decide +kernel) rfl rfl) (⟨_,_,_,rfl,(.cons ⟨_,rfl⟩ (.cons ⟨_,rfl⟩ .nil)),rfl⟩) rfl hr.aO (CG (aj (bM (aW hr.aO) bN (aq (pv 0)) (aj (ao au)) (fun _ _=>rfl)))) (fun b=>⟨dg,(az (pv 0)),(az (pv 1))⟩) (by rfl) gA.nd rfl rfl) (aD (bT (i:=3) gA.nd rfl (Or.inl rfl) (bA aA)) (aD (Nu PassesOwn.never (cX (Fe hr.aO) Nb (aq (pv 1)) (aq (pv 2)) (by with_unfolding_all rfl)) (aD (o9 (pv 3) (az (pv 1))) (aR (bT (i:=1) gA.nd rfl (Or.inl rfl) (bM (aW hr.aO) bN (aq (pv 2)) (aq (pv 1)) (fun _ _=>rfl)))))) (aR (nP (pv 3))))))
theorem Gr {P:Program} {w:World} {K:PySem.W.Frag} {mg:Str→Option Value} {base:Heap} {f:Addr} {fd:FuncData} (F:tZ K "rank_of" "rank_of" gf f fd) (T:Txt K mg) (cC:gq P w K mg base "parts_over" 1 (["house","part"]:List Str) (spT K cA)):dM P w K mg base qO 2 f fd (["house","person","part","day"]:List Str) (spT K dB):=
 fY (body:=sI) F pH fun cdv A outer s H E hr=>(aD (bT (i:=4) pH.nd rfl (Or.inr rfl) (aQ cC (hr.mono (by decide)) rfl (aa (az (pv 0)) (aa (az (pv 2)) aA)))) (aD (qx (i:=5) (T:=(.many 6)) (NT:=(["number","who","rank","where","first","last"]:List Str)) (NF:=(["person","over","day"]:List Str)) (js:=[1,4,3]) (iQ.ok (N0:=(["house","person","part","day","over","held"]:List Str)) (qP:=aC gf) (by decide +kernel) rfl rfl) (⟨_,_,_,rfl,(.cons ⟨_,rfl⟩ (.cons ⟨_,rfl⟩ (.cons ⟨_,rfl⟩ (.cons ⟨_,rfl⟩ (.cons ⟨_,rfl⟩ (.cons ⟨_,rfl⟩ .nil)))))),rfl⟩) rfl (CG (aj (bM (aW hr.aO) bN (aq (pv 0)) (aj (ao au)) (fun _ _=>rfl)))) (fun b=>⟨(jk (PW.pt (Fg (cX (j7 hr.units) ql (aq (pv 1)) (aq (pv 6)) (cV _)) (Fg (cX (Fe hr.aO) Nb (aq (pv 3)) (aq (pv 7)) (by with_unfolding_all rfl)) (HJ (Ni zH HB zH HB (aq (pv 4)) (aq (pv 8)) (aq (pv 5)))))))),(az (pv 2))⟩) (by rfl) pH.nd rfl rfl) (aR (bZ (Rf rfl (aq (pv 5)) (aj (ao au)) rfl T.vL)))))
theorem xG {P:Program} {w:World} {K:PySem.W.Frag} {mg:Str→Option Value} {base:Heap} {f:Addr} {fd:FuncData} (F:tZ K "holders_of" "holders_of" cM f fd) (T:Txt K mg) (dD:gq P w K mg base "rank_of" 2 (["house","person","part","day"]:List Str) (spT K dB)):dM P w K mg base qO 3 f fd (["house","rank","part","day"]:List Str) (spT K cB):=
 fY (body:=lq) F oO fun cdv A outer s H E hr=>(aD (bT (i:=4) oO.nd rfl (Or.inl rfl) (Ym (T:=.one) (NT:=(["row"]:List Str)) (NF:=([]:List Str)) (js:=[]) (iQ.ok (N0:=(["house","rank","part","day","people"]:List Str)) (qP:=aC cM) (by decide +kernel) rfl rfl) (⟨_,⟨_,rfl⟩,rfl⟩) rfl rfl T.eG (oF (aj (bM (aW hr.aO) bN (aq (pv 0)) (aj (ao au)) (fun _ _=>rfl)))) (fun b=>⟨dg,(bM (aW hr.aO) bN (aq (pv 0)) (aj (ao au)) (fun _ _=>rfl))⟩))) (aR (bZ (gJ (T:=.one) (NT:=(["person"]:List Str)) (NF:=(["house","part","day","rank"]:List Str)) (js:=[0,2,3,1]) (iQ.ok (N0:=(["house","rank","part","day","people"]:List Str)) (qP:=aC cM) (by decide +kernel) rfl rfl) (⟨_,⟨_,rfl⟩,rfl⟩) rfl (oF (aq (pv 4))) (fun b=>⟨(jk (cX Sw Tr (aj (aQ dD (hr.mono (by decide)) rfl (aa (az (pv 1)) (aa (az (pv 0)) (aa (az (pv 2)) (aa (az (pv 3)) aA)))))) (aq (pv 4)) (cV _))),(az (pv 0))⟩)))))
theorem wz {P:Program} {w:World} {K:PySem.W.Frag} {mg:Str→Option Value} {base:Heap} {f:Addr} {fd:FuncData} (F:tZ K "empty_house" "empty_house" dz f fd) (T:Txt K mg):dM P w K mg base qO 1 f fd ([]:List Str) (spT K eN):=
 fY (body:=oR) F vJ fun cdv A outer s H E hr=>(aR (bZ (cP (aa (cP aA) (aa (cP aA) (aa (cP aA) (aa (cP aA) aA)))))))
theorem Ag {P:Program} {w:World} {K:PySem.W.Frag} {mg:Str→Option Value} {base:Heap} {f:Addr} {fd:FuncData} (F:tZ K "rules_for" "rules_for" dW f fd) (T:Txt K mg) (cC:gq P w K mg base "parts_over" 1 (["house","part"]:List Str) (spT K cA)):dM P w K mg base qO 2 f fd (["house","part"]:List Str) (spT K gU):=
 fY (body:=mX) F kW fun cdv A outer s H E hr=>(aD (fj PassesOwn.never rfl (zP (aQ cC (hr.mono (by decide)) rfl (aa (az (pv 0)) (aa (az (pv 1)) aA)))) (bU (i:=2) kW.nd rfl (Or.inr rfl)) cL (aD (qx (i:=3) (T:=(.many 3)) (NT:=(["where","bound","seats"]:List Str)) (NF:=(["name"]:List Str)) (js:=[2]) (iQ.ok (N0:=(["house","part","name","found"]:List Str)) (qP:=aC dW) (by decide +kernel) rfl rfl) (⟨_,_,_,rfl,(.cons ⟨_,rfl⟩ (.cons ⟨_,rfl⟩ (.cons ⟨_,rfl⟩ .nil))),rfl⟩) rfl (CG (aj (bM (aW hr.aO) bN (aq (pv 0)) (aj (ao au)) (fun _ _=>rfl)))) (fun b=>⟨(jk (cX (j7 hr.units) ql (aq (pv 0)) (aq (pv 3)) (cV _))),(cP (aa (az (pv 1)) (aa (az (pv 2)) aA)))⟩) (by rfl) kW.nd rfl rfl) (aR (iw (jF (aq (pv 3))) (aR (nP (pv 3))) eE)))) (aR (bZ (bA aA))))
theorem Dl {P:Program} {w:World} {K:PySem.W.Frag} {mg:Str→Option Value} {base:Heap} {f:Addr} {fd:FuncData} (F:tZ K "seats_of" "seats_of" dU f fd) (T:Txt K mg) (nD:gq P w K mg base "rules_for" 2 (["house","part"]:List Str) (spT K gU)):dM P w K mg base qO 3 f fd (["house","part","amount"]:List Str) (spT K gk):=
 fY (body:=pJ) F jn fun cdv A outer s H E hr=>(aD (qx (i:=3) (T:=(.many 2)) (NT:=(["bound","seats"]:List Str)) (NF:=(["amount"]:List Str)) (js:=[2]) (iQ.ok (N0:=(["house","part","amount","fitting","bound","seats"]:List Str)) (qP:=aC dU) (by decide +kernel) rfl rfl) (⟨_,_,_,rfl,(.cons ⟨_,rfl⟩ (.cons ⟨_,rfl⟩ .nil)),rfl⟩) rfl (CG (aj (aQ nD (hr.mono (by decide)) rfl (aa (az (pv 0)) (aa (az (pv 1)) aA))))) (fun b=>⟨(jk (cX zH HB (aq (pv 0)) (aq (pv 2)) (cV _))),(cP (aa (az (pv 0)) (aa (az (pv 1)) aA)))⟩) (by rfl) jn.nd rfl rfl) (aD (iw (rH (jF (aq (pv 3)))) (aR (bZ (cP aA))) eE) (aD (VF Yq (Dw rfl (gF (bU (i:=4) jn.nd rfl (Or.inl rfl)) (gF (bU (i:=5) jn.nd rfl (Or.inl rfl)) yS))) (VD (Ca cL (Ca cL Q3)))) (aR (bZ (gH dw jY rfl T.dZ (by decide +kernel) (aP (aj (gJ (T:=(.many 2)) (NT:=(["rank","where"]:List Str)) (NF:=(["part"]:List Str)) (js:=[1]) (iQ.ok (N0:=(["house","part","amount","fitting","bound","seats"]:List Str)) (qP:=aC dU) (by decide +kernel) rfl rfl) (⟨_,_,_,rfl,(.cons ⟨_,rfl⟩ (.cons ⟨_,rfl⟩ .nil)),rfl⟩) rfl (CG (aq (pv 5))) (fun b=>⟨dg,(cP (aa (az (pv 0)) (aa (Tv (cX (j7 hr.units) ql (aq (pv 1)) (aj (ao lZ)) (cV _)) (az (pv 2)) (az (pv 1))) aA)))⟩))) bh)))))))
theorem RL {P:Program} {w:World} {K:PySem.W.Frag} {mg:Str→Option Value} {base:Heap} {f:Addr} {fd:FuncData} (F:tZ K "_law_box" "_law_box" su f fd) (T:Txt K mg):dM P w K mg base qO 1 f fd (["_law_script","_law_k"]:List Str) (spT K vP):=
 fY (body:=Gn) F Ad fun cdv A outer s H E hr=>(aD (bT (i:=2) Ad.nd rfl (Or.inl rfl) (ao au)) (aD (iw (cX (uG hr.Ln) Tq (aq (pv 1)) (aj (Ib (pv 0) rfl T.jq (by decide +kernel))) (cV _)) (aR (bT (i:=2) Ad.nd rfl (Or.inl rfl) (VN (pv 0) (aq (pv 1)) (fun _ _=>rfl)))) eE) (aR (bZ (bA (aa (aL oU o6 (aj (bI Aq NZ rfl T.yH (by decide +kernel) (aP (aq (pv 2)) bh))) (aj (gH Ju VP rfl T.yJ (by decide +kernel) (aP (aj (rD Sw Tr (aj (bI Aq NZ rfl T.yH (by decide +kernel) (aP (aq (pv 2)) bh))) (aj (aL yW zF (aj (ao au)) (aj (ao au)))) (cV _))) bh)))) (aa (aL aY bK (aj (aL aY bK (aj (aL oV oZ (aq (pv 2)) (aj (ao au)))) (aj (aL oU o6 (aj (ao au)) (aq (pv 1)))))) (aj (ao au))) (aa (ao au) aA))))))))
theorem O2 {P:Program} {w:World} {K:PySem.W.Frag} {mg:Str→Option Value} {base:Heap} {f:Addr} {fd:FuncData} (F:tZ K "_law_take" "_law_take" nU f fd) (T:Txt K mg):dM P w K mg base qO 1 f fd (["_law_box_here","_law_many_here"]:List Str) (spT K aM):=
 fY (body:=ur) F vK fun cdv A outer s H E hr=>(aD (iw (cX Xb XR (aj (pB (pv 0) (aj (ao au)) (fun _ _=>rfl))) (aj (ao au)) (cV _)) (aD (bT (i:=2) vK.nd rfl (Or.inl rfl) (aL oV oZ (aj (pB (pv 0) (aj (ao au)) (fun _ _=>rfl))) (aq (pv 1)))) (aD (Fp hr.aO (pv 0) (aj (ao au)) (aL GP Hw (aj (pB (pv 0) (aj (ao au)) (fun _ _=>rfl))) (aq (pv 1)))) (aR (nP (pv 2))))) eE) (aD (Fp hr.aO (pv 0) (aj (ao au)) (aL aY bK (aj (pB (pv 0) (aj (ao au)) (fun _ _=>rfl))) (aj (ao au)))) (aD (bT (i:=3) vK.nd rfl (Or.inl rfl) (aL oV oZ (aj (aL yW zF (aj (aL aY bK (aj (pB (pv 0) (aj (ao au)) (fun _ _=>rfl))) (aj (aL oU o6 (aj (ao au)) (aj (pB (pv 0) (aj (ao au)) (fun _ _=>rfl))))))) (aj (ao au)))) (aj (ao au)))) (aR (bZ (aL oV oZ (aj (aL GP Hw (aj (aL oV oZ (aj (aL aY bK (aj (aL oU o6 (aq (pv 3)) (aj (aL aY bK (aj (aL oV oZ (aq (pv 3)) (aj (ao au)))) (aj (ao au)))))) (aj (aL oU o6 (aj (pB (pv 0) (aj (ao au)) (fun _ _=>rfl))) (aj (ao au)))))) (aj (ao au)))) (aj (ao au)))) (aq (pv 1))))))))
theorem Kv {P:Program} {w:World} {K:PySem.W.Frag} {mg:Str→Option Value} {base:Heap} {f:Addr} {fd:FuncData} (F:tZ K "_law_names" "_law_names" fQ f fd) (T:Txt K mg) (aN:gq P w K mg base "_law_take" 1 (["_law_box_here","_law_many_here"]:List Str) (spT K aM)):dM P w K mg base qO 2 f fd (["_law_box_here","_law_many_here"]:List Str) (spT K mZ):=
 fY (body:=vQ) F gh fun cdv A outer s H E hr=>(aD (bT (i:=2) gh.nd rfl (Or.inr rfl) (ao lZ)) (aD (bT (i:=3) gh.nd rfl (Or.inr rfl) (bA aA)) (aD (fj PassesOwn.never rfl (iY rfl T.fU (aq (pv 1))) (bU (i:=4) gh.nd rfl (Or.inl rfl)) cL (aD (bT (i:=5) gh.nd rfl (Or.inl rfl) (bM (aW hr.aO) bN (aj (bA (aa (ao au) (aa (ao au) (aa (ao au) aA))))) (aj (aQ aN (hr.mono (by decide)) rfl (aa (az (pv 0)) (aa (ao au) aA)))) (fun _ _=>rfl))) (aD (bT (i:=6) gh.nd rfl (Or.inr rfl) (Rg (aj (ao lZ)) (aj (gJ (T:=.one) (NT:=(["_law_j"]:List Str)) (NF:=(["_law_letters","_law_box_here"]:List Str)) (js:=[2,0]) (iQ.ok (N0:=(["_law_box_here","_law_many_here","_law_letters","_law_found","_law_k","_law_size","_law_name"]:List Str)) (qP:=aC fQ) (by decide +kernel) rfl rfl) (⟨_,⟨_,rfl⟩,rfl⟩) rfl (iY rfl T.fU (aq (pv 5))) (fun b=>⟨dg,(bM (aW hr.aO) bN (aq (pv 1)) (aj (aQ aN (hr.mono (by decide)) rfl (aa (az (pv 2)) (aa (ao au) aA)))) (fun _ _=>rfl))⟩))))) (aD (iw (PW.pt (Fg (cX (j7 hr.units) ql (aj (aQ aN (hr.mono (by decide)) rfl (aa (az (pv 0)) (aa (ao au) aA)))) (aj (ao au)) (cV _)) (HJ (cX (zG hr.units) Hz (aq (pv 3)) (aj (bA aA)) (cV _))))) (aR (bT (i:=6) gh.nd rfl (Or.inr rfl) (aL aY bK (aj (Iu (aj (bM (aW hr.aO) bN (aq (pv 3)) (aj (aQ aN (hr.mono (by decide)) rfl (aa (az (pv 0)) (aa (bI fG mR rfl T.jq (by decide +kernel) (aP (aq (pv 3)) bh)) aA)))) (fun _ _=>rfl))) Ip (Ir (aj (ao au))))) (aj (bM (aW hr.aO) bN (aq (pv 2)) (aj (aQ aN (hr.mono (by decide)) rfl (aa (az (pv 0)) (aa (ao au) aA)))) (fun _ _=>rfl)))))) eE) (aR (o9 (pv 3) (bM (aW hr.aO) bN (aj (gJ (T:=.one) (NT:=(["_law_one"]:List Str)) (NF:=(["_law_found"]:List Str)) (js:=[3]) (iQ.ok (N0:=(["_law_box_here","_law_many_here","_law_letters","_law_found","_law_k","_law_size","_law_name"]:List Str)) (qP:=aC fQ) (by decide +kernel) rfl rfl) (⟨_,⟨_,rfl⟩,rfl⟩) rfl (oF (aj (aL aY bK (aj (bA (aa (az (pv 6)) aA))) (aj (gJ (T:=.one) (NT:=(["_law_one"]:List Str)) (NF:=(["_law_name"]:List Str)) (js:=[6]) (iQ.ok (N0:=(["_law_box_here","_law_many_here","_law_letters","_law_found","_law_k","_law_size","_law_name"]:List Str)) (qP:=aC fQ) (by decide +kernel) rfl rfl) (⟨_,⟨_,rfl⟩,rfl⟩) rfl (oF (aq (pv 2))) (fun b=>⟨dg,(aL aY bK (aj (Iu (aq (pv 1)) Ip (Ir (aj (ao au))))) (aq (pv 0)))⟩)))))) (fun b=>⟨(jk (cX (rF hr.aO) uV (aq (pv 0)) (aq (pv 1)) (by with_unfolding_all rfl))),(az (pv 0))⟩))) (aj (ao au)) (fun _ _=>rfl)))))))) (aR (nP (pv 3))))))
theorem RM {P:Program} {w:World} {K:PySem.W.Frag} {mg:Str→Option Value} {base:Heap} {f:Addr} {fd:FuncData} (F:tZ K "_law_day" "_law_day" sy f fd) (T:Txt K mg) (aN:gq P w K mg base "_law_take" 1 (["_law_box_here","_law_many_here"]:List Str) (spT K aM)):dM P w K mg base qO 2 f fd (["_law_box_here"]:List Str) (spT K jJ):=
 fY (body:=Gp) F Jg fun cdv A outer s H E hr=>(aD (bT (i:=1) Jg.nd rfl (Or.inl rfl) (bM (aW hr.aO) bN (aj (bA (aa (ao au) (aa (ao au) (aa (ao au) (aa (ao au) (aa (ao au) (aa (ao au) aA)))))))) (aj (aQ aN (hr.mono (by decide)) rfl (aa (az (pv 0)) (aa (ao au) aA)))) (fun _ _=>rfl))) (aR (bZ (bM (aW hr.aO) bN (aj (bA (aa (aQ aN (hr.mono (by decide)) rfl (aa (az (pv 0)) (aa (ao au) aA))) (aa (aQ aN (hr.mono (by decide)) rfl (aa (az (pv 0)) (aa (ao au) aA))) (aa (aL DN EY (aj (ao au)) (aj (aQ aN (hr.mono (by decide)) rfl (aa (az (pv 0)) (aa (ao au) aA))))) aA))))) (aq (pv 1)) (fun _ _=>rfl)))))
theorem RN {P:Program} {w:World} {K:PySem.W.Frag} {mg:Str→Option Value} {base:Heap} {f:Addr} {fd:FuncData} (F:tZ K "_law_sum" "_law_sum" sE f fd) (T:Txt K mg) (aN:gq P w K mg base "_law_take" 1 (["_law_box_here","_law_many_here"]:List Str) (spT K aM)):dM P w K mg base qO 2 f fd (["_law_box_here"]:List Str) (spT K sJ):=
 fY (body:=Gq) F RK fun cdv A outer s H E hr=>(aR (bZ (bM (aW hr.aO) bN (aj (bA (aa (aQ aN (hr.mono (by decide)) rfl (aa (az (pv 0)) (aa (ao au) aA))) (aa (aL oU o6 (aj (ao au)) (aj (aQ aN (hr.mono (by decide)) rfl (aa (az (pv 0)) (aa (ao au) aA))))) (aa (aL DN EY (aj (aL yW zF (aj (ao au)) (aj (ao au)))) (aj (aQ aN (hr.mono (by decide)) rfl (aa (az (pv 0)) (aa (ao au) aA))))) aA))))) (aj (bM (aW hr.aO) bN (aj (bA (aa (ao au) (aa (ao au) (aa (ao au) (aa (ao au) (aa (ao au) aA))))))) (aj (aQ aN (hr.mono (by decide)) rfl (aa (az (pv 0)) (aa (ao au) aA)))) (fun _ _=>rfl))) (fun _ _=>rfl))))
theorem Dm {P:Program} {w:World} {K:PySem.W.Frag} {mg:Str→Option Value} {base:Heap} {f:Addr} {fd:FuncData} (F:tZ K "_law_numbers" "_law_numbers" gj f fd) (T:Txt K mg) (aN:gq P w K mg base "_law_take" 1 (["_law_box_here","_law_many_here"]:List Str) (spT K aM)):dM P w K mg base qO 2 f fd (["_law_box_here","_law_many_here"]:List Str) (spT K gm):=
 fY (body:=pK) F gP fun cdv A outer s H E hr=>(aD (uZ (i:=2) (j:=3) rfl gP.nd rfl rfl (by decide) rfl rfl (cR (bA aA) (cR (ao au) o8)) rfl) (aD (fj PassesOwn.never rfl (iY rfl T.fU (aq (pv 1))) (bU (i:=4) gP.nd rfl (Or.inl rfl)) cL (aD (bT (i:=3) gP.nd rfl (Or.inl rfl) (aL aY bK (aq (pv 3)) (aj (bM (aW hr.aO) bN (aj (bA (aa (ao au) (aa (ao au) (aa (aL aY bK (aj (ao au)) (aj (aQ aN (hr.mono (by decide)) rfl (aa (az (pv 0)) (aa (ao au) aA))))) aA))))) (aj (aQ aN (hr.mono (by decide)) rfl (aa (az (pv 0)) (aa (ao au) aA)))) (fun _ _=>rfl))))) (aD (o9 (pv 2) (az (pv 3))) (aR (bT (i:=3) gP.nd rfl (Or.inl rfl) (aL aY bK (aq (pv 3)) (aj (ao au)))))))) (aR (nP (pv 2)))))
theorem O3 {P:Program} {w:World} {K:PySem.W.Frag} {mg:Str→Option Value} {base:Heap} {f:Addr} {fd:FuncData} (F:tZ K "_law_many" "_law_many" nW f fd) (T:Txt K mg) (aN:gq P w K mg base "_law_take" 1 (["_law_box_here","_law_many_here"]:List Str) (spT K aM)):dM P w K mg base qO 2 f fd (["_law_box_here","_law_most"]:List Str) (spT K gB):=
 fY (body:=uv) F OD fun cdv A outer s H E hr=>(aR (bZ (Tv (cX (j7 hr.units) ql (aj (aQ aN (hr.mono (by decide)) rfl (aa (az (pv 0)) (aa (ao au) aA)))) (aj (ao au)) (cV _)) (az (pv 1)) (aQ aN (hr.mono (by decide)) rfl (aa (az (pv 0)) (aa (aL aY bK (aq (pv 1)) (aj (ao au))) aA))))))
theorem Kw {P:Program} {w:World} {K:PySem.W.Frag} {mg:Str→Option Value} {base:Heap} {f:Addr} {fd:FuncData} (F:tZ K "_law_parts" "_law_parts" jd f fd) (T:Txt K mg) (aN:gq P w K mg base "_law_take" 1 (["_law_box_here","_law_many_here"]:List Str) (spT K aM)) (iJ:gq P w K mg base "_law_many" 2 (["_law_box_here","_law_most"]:List Str) (spT K gB)):dM P w K mg base qO 3 f fd (["_law_box_here","_law_names_here"]:List Str) (spT K nj):=
 fY (body:=vR) F sG fun cdv A outer s H E hr=>(aD (bT (i:=2) sG.nd rfl (Or.inl rfl) (bA aA)) (aD (fj PassesOwn.never rfl (iY rfl T.fU (aj (bI (Js rfl) Q9 rfl T.vL (by decide +kernel) (aP (aj (ao au)) (aP (aj (aQ iJ (hr.mono (by decide)) rfl (aa (az (pv 0)) (aa (ao au) aA)))) bh))))) (bU (i:=3) sG.nd rfl (Or.inl rfl)) cL (aR (o9 (pv 2) (cP (aa (bM (aW hr.aO) bN (aq (pv 1)) (aq (pv 3)) (fun _ _=>rfl)) (aa (bM (aW hr.aO) bN (aj (aL aY bK (aj (bA (aa (ao lZ) aA))) (aj (gJ (T:=.one) (NT:=(["_law_row"]:List Str)) (NF:=([]:List Str)) (js:=[]) (iQ.ok (N0:=(["_law_box_here","_law_names_here","_law_rows","_law_k"]:List Str)) (qP:=aC jd) (by decide +kernel) rfl rfl) (⟨_,⟨_,rfl⟩,rfl⟩) rfl (oF (aq (pv 2))) (fun b=>⟨dg,(bM (aW hr.aO) bN (aq (pv 0)) (aj (ao au)) (fun _ _=>rfl))⟩))))) (aj (aQ aN (hr.mono (by decide)) rfl (aa (az (pv 0)) (aa (aL aY bK (aq (pv 3)) (aj (ao au))) aA)))) (fun _ _=>rfl)) aA)))))) (aR (nP (pv 2)))))
theorem Ky {P:Program} {w:World} {K:PySem.W.Frag} {mg:Str→Option Value} {base:Heap} {f:Addr} {fd:FuncData} (F:tZ K "_law_house" "_law_house" gQ f fd) (T:Txt K mg) (aN:gq P w K mg base "_law_take" 1 (["_law_box_here","_law_many_here"]:List Str) (spT K aM)) (lz:gq P w K mg base "_law_day" 2 (["_law_box_here"]:List Str) (spT K jJ)) (Ah:gq P w K mg base "_law_sum" 2 (["_law_box_here"]:List Str) (spT K sJ)) (lA:gq P w K mg base "_law_numbers" 2 (["_law_box_here","_law_many_here"]:List Str) (spT K gm)) (iJ:gq P w K mg base "_law_many" 2 (["_law_box_here","_law_most"]:List Str) (spT K gB)) (wA:gq P w K mg base "_law_parts" 3 (["_law_box_here","_law_names_here"]:List Str) (spT K nj)):dM P w K mg base qO 4 f fd (["_law_box_here","_law_names_here"]:List Str) (spT K nu):=
 fY (body:=vU) F bR fun cdv A outer s H E hr=>(aD (bT (i:=2) bR.nd rfl (Or.inl rfl) (aQ wA (hr.mono (by decide)) rfl (aa (az (pv 0)) (aa (az (pv 1)) aA)))) (aD (HX (is:=[3,4,5,6]) (cR (gJ (T:=.one) (NT:=(["_law_row"]:List Str)) (NF:=([]:List Str)) (js:=[]) (iQ.ok (N0:=(["_law_box_here","_law_names_here","_law_parts_here","_law_own","_law_ranks","_law_leaves","_law_rules","_law_number","_law_days","_law_who","_law_where","_law_at","_law_taker","_law_k","_law_key","_law_seats","_law_j","_law_part","_law_rows"]:List Str)) (qP:=aC gQ) (by decide +kernel) rfl rfl) (⟨_,⟨_,rfl⟩,rfl⟩) rfl (oF (aq (pv 2))) (fun b=>⟨dg,(bM (aW hr.aO) bN (aq (pv 0)) (aj (ao au)) (fun _ _=>rfl))⟩)) (cR (bA aA) (cR (bA aA) (cR Nk o8)))) (Dw rfl (gF (bU (i:=3) bR.nd rfl (Or.inl rfl)) (gF (bU (i:=4) bR.nd rfl (Or.inl rfl)) (gF (bU (i:=5) bR.nd rfl (Or.inl rfl)) (gF (bU (i:=6) bR.nd rfl (Or.inr rfl)) yS)))))) (aD (fj PassesOwn.never rfl (zP (aQ lA (hr.mono (by decide)) rfl (aa (az (pv 0)) (aa (aQ iJ (hr.mono (by decide)) rfl (aa (az (pv 0)) (aa (ao au) aA))) aA)))) (bU (i:=7) bR.nd rfl (Or.inl rfl)) cL (aD (bT (i:=8) bR.nd rfl (Or.inl rfl) (bI (kE rfl) qD rfl T.eG (by decide +kernel) (aP (aj (bA (aa (aQ lz (hr.mono (by decide)) rfl (aa (az (pv 0)) aA)) (aa (aQ lz (hr.mono (by decide)) rfl (aa (az (pv 0)) aA)) aA)))) bh))) (aD (uZ (i:=9) (j:=10) rfl bR.nd rfl rfl (by decide) rfl rfl (cR (bM (aW hr.aO) bN (aq (pv 1)) (aj (aQ aN (hr.mono (by decide)) rfl (aa (az (pv 0)) (aa (ao au) aA)))) (fun _ _=>rfl)) (cR (bM (aW hr.aO) bN (aq (pv 3)) (aj (aQ aN (hr.mono (by decide)) rfl (aa (az (pv 0)) (aa (bI fG mR rfl T.jq (by decide +kernel) (aP (aq (pv 3)) bh)) aA)))) (fun _ _=>rfl)) o8)) rfl) (aR (o9 (pv 4) (cP (aa (az (pv 7)) (aa (az (pv 9)) (aa (aL aY bK (aj (ao au)) (aj (aQ aN (hr.mono (by decide)) rfl (aa (az (pv 0)) (aa (bM (aW hr.aO) bN (aj (bA (aa (ao au) (aa (ao au) aA)))) (aj (aQ aN (hr.mono (by decide)) rfl (aa (az (pv 0)) (aa (ao au) aA)))) (fun _ _=>rfl)) aA))))) (aa (az (pv 10)) (aa (bM (aW hr.aO) bN (aq (pv 8)) (aj (ao au)) (fun _ _=>rfl)) (aa (bM (aW hr.aO) bN (aq (pv 8)) (aj (ao au)) (fun _ _=>rfl)) aA)))))))))))) (aD (fj PassesOwn.never rfl (zP (aQ lA (hr.mono (by decide)) rfl (aa (az (pv 0)) (aa (aQ iJ (hr.mono (by decide)) rfl (aa (az (pv 0)) (aa (ao au) aA))) aA)))) (bU (i:=7) bR.nd rfl (Or.inl rfl)) cL (aD (uZ (i:=8) (j:=11) rfl bR.nd rfl rfl (by decide) rfl rfl (cR (bI (kE rfl) qD rfl T.eG (by decide +kernel) (aP (aj (bA (aa (aQ lz (hr.mono (by decide)) rfl (aa (az (pv 0)) aA)) (aa (aQ lz (hr.mono (by decide)) rfl (aa (az (pv 0)) aA)) aA)))) bh)) (cR (aQ aN (hr.mono (by decide)) rfl (aa (az (pv 0)) (aa (ao au) aA))) o8)) rfl) (aD (uZ (i:=12) (j:=10) rfl bR.nd rfl rfl (by decide) rfl rfl (cR (bM (aW hr.aO) bN (aq (pv 1)) (aj (aL oV oZ (aj (aL aY bK (aj (aL aY bK (aq (pv 11)) (aj (ao au)))) (aj (aQ aN (hr.mono (by decide)) rfl (aa (az (pv 0)) (aa (ao au) aA)))))) (aj (ao au)))) (fun _ _=>rfl)) (cR (bM (aW hr.aO) bN (aq (pv 3)) (aj (aQ aN (hr.mono (by decide)) rfl (aa (az (pv 0)) (aa (bI fG mR rfl T.jq (by decide +kernel) (aP (aq (pv 3)) bh)) aA)))) (fun _ _=>rfl)) o8)) rfl) (aR (o9 (pv 5) (cP (aa (az (pv 7)) (aa (bM (aW hr.aO) bN (aq (pv 1)) (aq (pv 11)) (fun _ _=>rfl)) (aa (az (pv 12)) (aa (az (pv 10)) (aa (bM (aW hr.aO) bN (aq (pv 8)) (aj (ao au)) (fun _ _=>rfl)) (aa (bM (aW hr.aO) bN (aq (pv 8)) (aj (ao au)) (fun _ _=>rfl)) (aa (aQ Ah (hr.mono (by decide)) rfl (aa (az (pv 0)) aA)) aA))))))))))))) (aD (fj PassesOwn.never rfl (iY rfl T.fU (aj (aQ iJ (hr.mono (by decide)) rfl (aa (az (pv 0)) (aa (ao au) aA))))) (bU (i:=13) bR.nd rfl (Or.inl rfl)) cL (aD (uZ (i:=14) (j:=15) rfl bR.nd rfl rfl (by decide) rfl rfl (cR (cP (aa (bM (aW hr.aO) bN (aq (pv 3)) (aj (aQ aN (hr.mono (by decide)) rfl (aa (az (pv 0)) (aa (bI fG mR rfl T.jq (by decide +kernel) (aP (aq (pv 3)) bh)) aA)))) (fun _ _=>rfl)) (aa (aQ Ah (hr.mono (by decide)) rfl (aa (az (pv 0)) aA)) aA))) (cR (bA aA) o8)) rfl) (aD (fj PassesOwn.never rfl (iY rfl T.fU (aj (aQ iJ (hr.mono (by decide)) rfl (aa (az (pv 0)) (aa (ao au) aA))))) (bU (i:=16) bR.nd rfl (Or.inl rfl)) cL (aD (bT (i:=17) bR.nd rfl (Or.inl rfl) (bM (aW hr.aO) bN (aj (aL aY bK (aj (bA (aa (ao lZ) (aa (ao lZ) aA)))) (aq (pv 3)))) (aj (aQ aN (hr.mono (by decide)) rfl (aa (az (pv 0)) (aa (aL aY bK (aj (ao au)) (aj (bI fG mR rfl T.jq (by decide +kernel) (aP (aq (pv 3)) bh)))) aA)))) (fun _ _=>rfl))) (aR (o9 (pv 15) (cP (aa (aL aY bK (aj (ao au)) (aj (aQ aN (hr.mono (by decide)) rfl (aa (az (pv 0)) (aa (bM (aW hr.aO) bN (aj (bA (aa (ao au) (aa (ao au) aA)))) (aj (aQ aN (hr.mono (by decide)) rfl (aa (az (pv 0)) (aa (ao au) aA)))) (fun _ _=>rfl)) aA))))) (aa (az (pv 17)) aA))))))) (aR (Fp hr.aO (pv 6) (aq (pv 14)) (gH dw jY rfl T.dZ (by decide +kernel) (aP (aq (pv 15)) bh))))))) (aD (qx (i:=18) (T:=.one) (NT:=(["_law_key"]:List Str)) (NF:=(["_law_rules"]:List Str)) (js:=[6]) (iQ.ok (N0:=(["_law_box_here","_law_names_here","_law_parts_here","_law_own","_law_ranks","_law_leaves","_law_rules","_law_number","_law_days","_law_who","_law_where","_law_at","_law_taker","_law_k","_law_key","_law_seats","_law_j","_law_part","_law_rows"]:List Str)) (qP:=aC gQ) (by decide +kernel) rfl rfl) (⟨_,⟨_,rfl⟩,rfl⟩) rfl (oF (aj (bI (kE rfl) qD rfl T.eG (by decide +kernel) (aP (aq (pv 6)) bh)))) (fun b=>⟨dg,(aL aY bK (aq (pv 0)) (aj (cP (aa (bM (aW hr.aO) bN (aq (pv 1)) (aq (pv 0)) (fun _ _=>rfl)) aA))))⟩) (by rfl) bR.nd rfl rfl) (aR (bZ (cP (aa (az (pv 2)) (aa (cP (aa (gH dw jY rfl T.dZ (by decide +kernel) (aP (aj (bI (kE rfl) qD rfl T.eG (by decide +kernel) (aP (aq (pv 2)) bh))) bh)) (aa (gH dw jY rfl T.dZ (by decide +kernel) (aP (aq (pv 4)) bh)) (aa (gH dw jY rfl T.dZ (by decide +kernel) (aP (aq (pv 5)) bh)) (aa (gH dw jY rfl T.dZ (by decide +kernel) (aP (aq (pv 18)) bh)) aA))))) aA)))))))))))
theorem O4 {P:Program} {w:World} {K:PySem.W.Frag} {mg:Str→Option Value} {base:Heap} {f:Addr} {fd:FuncData} (n:Nat) (F:tZ K "_law_same" "_law_same" jo f fd) (T:Txt K mg) (gC:gq P w K mg base "_law_same" n (["_law_found","_law_due"]:List Str) (spT K (cj n))):dM P w K mg base qO (n + 1) f fd (["_law_found","_law_due"]:List Str) (spT K (cj (n + 1))):=
 fY (body:=Af (cj n)) F OJ fun cdv A outer s H E hr=>(aD (iw (cX Lf M6 (aq (pv 1)) (aj (ao K1)) (cV _)) (aR (bZ (rD Lf M6 (aq (pv 0)) (aj (ao K1)) (cV _)))) eE) (aD (iw (jF (aj (jH (by decide) (aq (pv 1)) (eO (v:=.ty "bool") rfl T.pI (by decide +kernel) rfl) rfl T.bu (by decide +kernel)))) (aR (bZ (uW (jH (by decide) (aq (pv 0)) (eO (v:=.ty "bool") rfl T.pI (by decide +kernel) rfl) rfl T.bu (by decide +kernel)) (zJ (rD (j7 hr.units) ql (aq (pv 0)) (aq (pv 1)) (cV _)))))) eE) (aD (iw (jF (aj (Rb (by decide) (by decide) (aq (pv 1)) (eO (v:=.ty "list") rfl T.mW (by decide +kernel) rfl) (eO (v:=.ty "tuple") rfl T.dZ (by decide +kernel) rfl) rfl T.bu (by decide +kernel)))) (aD (iw (PW.pt (Tu (cX (zG hr.units) Hz (aj (jH (by decide) (aq (pv 0)) (eO (v:=.ty "list") rfl T.mW (by decide +kernel) rfl) rfl T.bu (by decide +kernel))) (aj (jH (by decide) (aq (pv 1)) (eO (v:=.ty "list") rfl T.mW (by decide +kernel) rfl) rfl T.bu (by decide +kernel))) (cV _)) (Ng (cX (zG hr.units) Hz (aj (jH (by decide) (aq (pv 0)) (eO (v:=.ty "tuple") rfl T.dZ (by decide +kernel) rfl) rfl T.bu (by decide +kernel))) (aj (jH (by decide) (aq (pv 1)) (eO (v:=.ty "tuple") rfl T.dZ (by decide +kernel) rfl) rfl T.bu (by decide +kernel))) (cV _))))) (aR (bZ (ao sS))) eE) (aR (bZ (uW (rD (j7 hr.units) ql (aj (bI fG mR rfl T.jq (by decide +kernel) (aP (aq (pv 0)) bh))) (aj (bI fG mR rfl T.jq (by decide +kernel) (aP (aq (pv 1)) bh))) (cV _)) (zJ (bI (Bc rfl) N5 rfl T.yI (by decide +kernel) (aP (aj (gJ (T:=(.many 2)) (NT:=(["_law_one","_law_other"]:List Str)) (NF:=([]:List Str)) (js:=[]) (iQ.ok (N0:=(["_law_found","_law_due"]:List Str)) (qP:=aC jo) (by decide +kernel) rfl rfl) (⟨_,_,_,rfl,(.cons ⟨_,rfl⟩ (.cons ⟨_,rfl⟩ .nil)),rfl⟩) rfl (RG rfl T.Dg (aP (aq (pv 0)) (aP (aq (pv 1)) bh))) (fun b=>⟨dg,(aQ gC hr rfl (aa (az (pv 0)) (aa (az (pv 1)) aA)))⟩))) bh))))))) eE) (aD (iw (jF (aj (jH (by decide) (aq (pv 1)) (eO (v:=.ty "str") rfl T.yL (by decide +kernel) rfl) rfl T.bu (by decide +kernel)))) (aR (bZ (uW (jH (by decide) (aq (pv 0)) (eO (v:=.ty "str") rfl T.yL (by decide +kernel) rfl) rfl T.bu (by decide +kernel)) (zJ (rD (j7 hr.units) ql (aq (pv 0)) (aq (pv 1)) (cV _)))))) eE) (aR (bZ (uW (jH (by decide) (aq (pv 0)) (eO (v:=.ty "int") rfl T.yJ (by decide +kernel) rfl) rfl T.bu (by decide +kernel)) (uW (Vw (jH (by decide) (aq (pv 0)) (eO (v:=.ty "bool") rfl T.pI (by decide +kernel) rfl) rfl T.bu (by decide +kernel))) (zJ (rD (j7 hr.units) ql (aq (pv 0)) (aq (pv 1)) (cV _)))))))))))
theorem yN {P:Program} {w:World} {K:PySem.W.Frag} {mg:Str→Option Value} {base:Heap} {f:Addr} {fd:FuncData} (hm:mg "_law_same"=some (.ref f)) (hk:PySem.W.keepIn K (.ref f)=true) (hb:Binds K fd (["_law_found","_law_due"]:List Str) []) (F:tZ K "_law_same" "_law_same" jo f fd) (T:Txt K mg):
  ∀n,gq P w K mg base "_law_same" n (["_law_found","_law_due"]:List Str) (spT K (cj n))
 | 0=>⟨f,fd,hm,hk,hb,Rk⟩
 | n + 1=>⟨f,fd,hm,hk,hb,O4 n F T (yN hm hk hb F T n)⟩
theorem Dn {P:Program} {w:World} {K:PySem.W.Frag} {mg:Str→Option Value} {base:Heap} {f:Addr} {fd:FuncData} (F:tZ K "_law_nothing" "_law_nothing" fB f fd) (T:Txt K mg) (cC:gq P w K mg base "parts_over" 1 (["house","part"]:List Str) (spT K cA)) (dD:gq P w K mg base "rank_of" 2 (["house","person","part","day"]:List Str) (spT K dB)) (cN:gq P w K mg base "holders_of" 3 (["house","rank","part","day"]:List Str) (spT K cB)) (lB:gq P w K mg base "seats_of" 3 (["house","part","amount"]:List Str) (spT K gk)) (gC:gq P w K mg base "_law_same" 3 (["_law_found","_law_due"]:List Str) (spT K (cj 3))):dM P w K mg base qO 4 f fd (["_law_house_here","_law_people","_law_part","_law_day_here"]:List Str) (spT K gn):=
 fY (body:=pL) F mV fun cdv A outer s H E hr=>(aD (bT (i:=4) mV.nd rfl (Or.inl rfl) (bA (aa (aQ cC (hr.mono (by decide)) rfl (aa (az (pv 0)) (aa (az (pv 2)) aA))) (aa (aQ cN (hr.mono (by decide)) rfl (aa (az (pv 0)) (aa (ao au) (aa (az (pv 2)) (aa (az (pv 3)) aA))))) (aa (aQ cN (hr.mono (by decide)) rfl (aa (az (pv 0)) (aa (ao au) (aa (az (pv 2)) (aa (az (pv 3)) aA))))) aA))))) (aD (bT (i:=4) mV.nd rfl (Or.inl rfl) (aL aY bK (aq (pv 4)) (aj (bA (aa (aQ lB (hr.mono (by decide)) rfl (aa (az (pv 0)) (aa (az (pv 2)) (aa (ao au) aA)))) (aa (aQ lB (hr.mono (by decide)) rfl (aa (az (pv 0)) (aa (az (pv 2)) (aa (aL yW zF (aj (ao au)) (aj (ao au))) aA)))) aA)))))) (aD (iw (rH (jF (aj (aQ gC (hr.mono (by decide)) rfl (aa (az (pv 4)) (aa (bA (aa (bA aA) (aa (bA aA) (aa (bA aA) (aa (cP aA) (aa (cP aA) aA)))))) aA)))))) (aR (bZ (ao sS))) eE) (aR (bZ (bI (Bc rfl) N5 rfl T.yI (by decide +kernel) (aP (aj (gJ (T:=.one) (NT:=(["_law_person"]:List Str)) (NF:=(["_law_house_here","_law_part","_law_day_here"]:List Str)) (js:=[0,2,3]) (iQ.ok (N0:=(["_law_house_here","_law_people","_law_part","_law_day_here","_law_found"]:List Str)) (qP:=aC fB) (by decide +kernel) rfl rfl) (⟨_,⟨_,rfl⟩,rfl⟩) rfl (oF (aq (pv 1))) (fun b=>⟨dg,(aQ gC (hr.mono (by decide)) rfl (aa (aQ dD (hr.mono (by decide)) rfl (aa (az (pv 1)) (aa (az (pv 0)) (aa (az (pv 2)) (aa (az (pv 3)) aA))))) (aa (ao au) aA)))⟩))) bh)))))))
theorem Wf {P:Program} {w:World} {K:PySem.W.Frag} {mg:Str→Option Value} {base:Heap} {f:Addr} {fd:FuncData} (F:tZ K "law" "law" gR f fd) (T:Txt K mg) (dD:gq P w K mg base "rank_of" 2 (["house","person","part","day"]:List Str) (spT K dB)) (cN:gq P w K mg base "holders_of" 3 (["house","rank","part","day"]:List Str) (spT K cB)) (jM:gq P w K mg base "empty_house" 1 ([]:List Str) (spT K eN)) (Gs:gq P w K mg base "_law_box" 1 (["_law_script","_law_k"]:List Str) (spT K vP)) (wB:gq P w K mg base "_law_names" 2 (["_law_box_here","_law_many_here"]:List Str) (spT K mZ)) (lz:gq P w K mg base "_law_day" 2 (["_law_box_here"]:List Str) (spT K jJ)) (wC:gq P w K mg base "_law_house" 4 (["_law_box_here","_law_names_here"]:List Str) (spT K nu)) (gC:gq P w K mg base "_law_same" 3 (["_law_found","_law_due"]:List Str) (spT K (cj 3))) (lC:gq P w K mg base "_law_nothing" 4 (["_law_house_here","_law_people","_law_part","_law_day_here"]:List Str) (spT K gn)):dM P w K mg base qO 5 f fd (["_law_script"]:List Str) (spT K yM):=
 fY (body:=O1) F dm fun cdv A outer s H E hr=>(aD (fj PassesOwn.never rfl (iY rfl T.fU (aj (aL aY bK (aj (ao au)) (aj (bI (Jt rfl) Ra rfl T.yK (by decide +kernel) (aP (aj (ao au)) (aP (aj (Ib (pv 0) rfl T.jq (by decide +kernel))) bh))))))) (bU (i:=1) dm.nd rfl (Or.inl rfl)) cL (aD (VH (i:=2) dm.nd rfl (Or.inl rfl) (aQ Gs (hr.mono (by decide)) rfl (aa (az (pv 0)) (aa (az (pv 1)) aA)))) (aD (bT (i:=3) dm.nd rfl (Or.inl rfl) (aQ wB (hr.mono (by decide)) rfl (aa (az (pv 2)) (aa (ao au) aA)))) (aD (bT (i:=4) dm.nd rfl (Or.inr rfl) (bM (aW hr.aO) bN (aj (aQ wC (hr.mono (by decide)) rfl (aa (az (pv 2)) (aa (az (pv 3)) aA)))) (aj (ao au)) (fun _ _=>rfl))) (aD (HX (is:=[5,6]) (cR (bI (xW hr.gd hr.units) Ih rfl T.sH (by decide +kernel) (aP (aq (pv 4)) bh)) (cR (gJ (T:=.one) (NT:=(["_law_row"]:List Str)) (NF:=([]:List Str)) (js:=[]) (iQ.ok (N0:=(["_law_script","_law_k","_law_box_here","_law_names_here","_law_house_here","_law_kept","_law_own","_law_holders","_law_people","_law_day_here","_law_name","_law_part","_law_some","_law_person","_law_early","_law_late","_law_found"]:List Str)) (qP:=aC gR) (by decide +kernel) rfl rfl) (⟨_,⟨_,rfl⟩,rfl⟩) rfl (oF (aj (bM (aW hr.aO) bN (aq (pv 4)) (aj (ao au)) (fun _ _=>rfl)))) (fun b=>⟨dg,(bM (aW hr.aO) bN (aq (pv 0)) (aj (ao au)) (fun _ _=>rfl))⟩)) o8)) (Dw rfl (gF (bU (i:=5) dm.nd rfl (Or.inl rfl)) (gF (bU (i:=6) dm.nd rfl (Or.inr rfl)) yS)))) (aD (bT (i:=7) dm.nd rfl (Or.inr rfl) (gJ (T:=.one) (NT:=(["_law_row"]:List Str)) (NF:=([]:List Str)) (js:=[]) (iQ.ok (N0:=(["_law_script","_law_k","_law_box_here","_law_names_here","_law_house_here","_law_kept","_law_own","_law_holders","_law_people","_law_day_here","_law_name","_law_part","_law_some","_law_person","_law_early","_law_late","_law_found"]:List Str)) (qP:=aC gR) (by decide +kernel) rfl rfl) (⟨_,⟨_,rfl⟩,rfl⟩) rfl (oF (aj (bM (aW hr.aO) bN (aq (pv 4)) (aj (ao au)) (fun _ _=>rfl)))) (fun b=>⟨dg,(bM (aW hr.aO) bN (aq (pv 0)) (aj (ao au)) (fun _ _=>rfl))⟩))) (aD (bT (i:=8) dm.nd rfl (Or.inl rfl) (Rc rfl (aj (aL aY bK (aj (aL aY bK (aj (aL aY bK (aq (pv 7)) (aq (pv 3)))) (aq (pv 6)))) (aj (bA (aa (ao lZ) aA))))) rfl T.eG rfl T.Df)) (aD (fj PassesOwn.never rfl (zP (cP (aa (ao au) (aa (ao au) (aa (aQ lz (hr.mono (by decide)) rfl (aa (az (pv 2)) aA)) aA))))) (bU (i:=9) dm.nd rfl (Or.inr rfl)) cL (aD (fj PassesOwn.never rfl (zP (aL Jd Jf (aj (gJ (T:=.one) (NT:=(["_law_one"]:List Str)) (NF:=(["_law_own"]:List Str)) (js:=[6]) (iQ.ok (N0:=(["_law_script","_law_k","_law_box_here","_law_names_here","_law_house_here","_law_kept","_law_own","_law_holders","_law_people","_law_day_here","_law_name","_law_part","_law_some","_law_person","_law_early","_law_late","_law_found"]:List Str)) (qP:=aC gR) (by decide +kernel) rfl rfl) (⟨_,⟨_,rfl⟩,rfl⟩) rfl (oF (aj (aL aY bK (aq (pv 8)) (aj (gH (xm rfl) Ox rfl T.mW (by decide +kernel) (aP (aj (ao lZ)) bh)))))) (fun b=>⟨(jk (cX (rF hr.aO) uV (aq (pv 0)) (aq (pv 1)) (by with_unfolding_all rfl))),(az (pv 0))⟩))) (aj (ao au)))) (bU (i:=10) dm.nd rfl (Or.inl rfl)) cL (aD (iw (rH (jF (aj (aQ lC (hr.mono (by decide)) rfl (aa (az (pv 4)) (aa (Iu (aq (pv 8)) Ip (Ir (aj (ao au)))) (aa (az (pv 10)) (aa (az (pv 9)) aA)))))))) (aR (bZ (ao sS))) eE) (aR (iw (rH (jF (aj (aQ lC (hr.mono (by decide)) rfl (aa (Vy jM (hr.mono (by decide)) rfl) (aa (Iu (aq (pv 8)) Ip (Ir (aj (ao au)))) (aa (az (pv 10)) (aa (az (pv 9)) aA)))))))) (aR (bZ (ao sS))) eE)))) (aR (fj PassesOwn.never rfl (zP (az (pv 6))) (bU (i:=11) dm.nd rfl (Or.inr rfl)) cL (aD (bT (i:=12) dm.nd rfl (Or.inl rfl) (aQ cN (hr.mono (by decide)) rfl (aa (az (pv 4)) (aa (ao au) (aa (az (pv 11)) (aa (az (pv 9)) aA)))))) (aR (fj PassesOwn.never rfl (zP (gJ (T:=.one) (NT:=(["_law_one"]:List Str)) (NF:=(["_law_holders"]:List Str)) (js:=[7]) (iQ.ok (N0:=(["_law_script","_law_k","_law_box_here","_law_names_here","_law_house_here","_law_kept","_law_own","_law_holders","_law_people","_law_day_here","_law_name","_law_part","_law_some","_law_person","_law_early","_law_late","_law_found"]:List Str)) (qP:=aC gR) (by decide +kernel) rfl rfl) (⟨_,⟨_,rfl⟩,rfl⟩) rfl (oF (aq (pv 8))) (fun b=>⟨(jk (cX (rF hr.aO) uV (aq (pv 0)) (aq (pv 1)) (by with_unfolding_all rfl))),(az (pv 0))⟩))) (bU (i:=13) dm.nd rfl (Or.inl rfl)) cL (aR (iw (PW.pt (Tu (rH (jF (aj (aQ gC (hr.mono (by decide)) rfl (aa (aQ dD (hr.mono (by decide)) rfl (aa (az (pv 4)) (aa (az (pv 13)) (aa (az (pv 11)) (aa (az (pv 9)) aA))))) (aa (ao au) aA)))))) (Ng (cX (Fe hr.aO) Nb (aq (pv 13)) (aq (pv 12)) (by with_unfolding_all rfl))))) (aR (bZ (ao sS))) eE))))))))) (aD (bT (i:=14) dm.nd rfl (Or.inl rfl) (aL DN EY (aj (bI (Gm rfl) RJ rfl T.yK (by decide +kernel) (aP (aj (aL aY bK (aj (gJ (T:=.one) (NT:=(["_law_row"]:List Str)) (NF:=([]:List Str)) (js:=[]) (iQ.ok (N0:=(["_law_script","_law_k","_law_box_here","_law_names_here","_law_house_here","_law_kept","_law_own","_law_holders","_law_people","_law_day_here","_law_name","_law_part","_law_some","_law_person","_law_early","_law_late","_law_found"]:List Str)) (qP:=aC gR) (by decide +kernel) rfl rfl) (⟨_,⟨_,rfl⟩,rfl⟩) rfl (oF (aj (bM (aW hr.aO) bN (aq (pv 4)) (aj (ao au)) (fun _ _=>rfl)))) (fun b=>⟨dg,(bM (aW hr.aO) bN (aq (pv 0)) (aj (ao au)) (fun _ _=>rfl))⟩))) (aj (bA (aa (ao au) aA))))) bh))) (aj (ao au)))) (aD (bT (i:=15) dm.nd rfl (Or.inl rfl) (aL aY bK (aj (bI (FW rfl) Rj rfl T.vL (by decide +kernel) (aP (aj (aL aY bK (aj (gJ (T:=.one) (NT:=(["_law_row"]:List Str)) (NF:=([]:List Str)) (js:=[]) (iQ.ok (N0:=(["_law_script","_law_k","_law_box_here","_law_names_here","_law_house_here","_law_kept","_law_own","_law_holders","_law_people","_law_day_here","_law_name","_law_part","_law_some","_law_person","_law_early","_law_late","_law_found"]:List Str)) (qP:=aC gR) (by decide +kernel) rfl rfl) (⟨_,⟨_,rfl⟩,rfl⟩) rfl (oF (aj (bM (aW hr.aO) bN (aq (pv 4)) (aj (ao au)) (fun _ _=>rfl)))) (fun b=>⟨dg,(bM (aW hr.aO) bN (aq (pv 0)) (aj (ao au)) (fun _ _=>rfl))⟩))) (aj (bA (aa (ao au) aA))))) bh))) (aj (ao au)))) (aD (fj PassesOwn.never rfl (zP (gJ (T:=.one) (NT:=(["_law_day_here"]:List Str)) (NF:=([]:List Str)) (js:=[]) (iQ.ok (N0:=(["_law_script","_law_k","_law_box_here","_law_names_here","_law_house_here","_law_kept","_law_own","_law_holders","_law_people","_law_day_here","_law_name","_law_part","_law_some","_law_person","_law_early","_law_late","_law_found"]:List Str)) (qP:=aC gR) (by decide +kernel) rfl rfl) (⟨_,⟨_,rfl⟩,rfl⟩) rfl (oF (aj (cP (aa (az (pv 14)) (aa (az (pv 15)) aA))))) (fun b=>⟨(jk (Ni zH HB (uG hr.Ln) Tq (aj (ao au)) (aq (pv 0)) (aj (ao au)))),(az (pv 0))⟩))) (bU (i:=9) dm.nd rfl (Or.inr rfl)) cL (aR (fj PassesOwn.never rfl (zP (az (pv 6))) (bU (i:=11) dm.nd rfl (Or.inr rfl)) cL (aD (bT (i:=16) dm.nd rfl (Or.inl rfl) (aL aY bK (aj (bA (aa (aQ cN (hr.mono (by decide)) rfl (aa (az (pv 4)) (aa (ao au) (aa (az (pv 11)) (aa (az (pv 9)) aA))))) aA))) (aj (gJ (T:=.one) (NT:=(["_law_person"]:List Str)) (NF:=(["_law_house_here","_law_part","_law_day_here"]:List Str)) (js:=[4,11,9]) (iQ.ok (N0:=(["_law_script","_law_k","_law_box_here","_law_names_here","_law_house_here","_law_kept","_law_own","_law_holders","_law_people","_law_day_here","_law_name","_law_part","_law_some","_law_person","_law_early","_law_late","_law_found"]:List Str)) (qP:=aC gR) (by decide +kernel) rfl rfl) (⟨_,⟨_,rfl⟩,rfl⟩) rfl (oF (aq (pv 8))) (fun b=>⟨dg,(aQ dD (hr.mono (by decide)) rfl (aa (az (pv 1)) (aa (az (pv 0)) (aa (az (pv 2)) (aa (az (pv 3)) aA)))))⟩))))) (aR (iw (rH (jF (aj (aQ gC (hr.mono (by decide)) rfl (aa (az (pv 16)) (aa (aL aY bK (aj (bA (aa (bA aA) aA))) (aj (aL Jd Jf (aj (bA (aa (ao au) aA))) (aj (bI fG mR rfl T.jq (by decide +kernel) (aP (aq (pv 8)) bh)))))) aA)))))) (aR (bZ (ao sS))) eE)))))) (aR (iw (cX (zG hr.units) Hz (aj (bI (xW hr.gd hr.units) Ih rfl T.sH (by decide +kernel) (aP (aq (pv 4)) bh))) (aq (pv 5)) (cV _)) (aR (bZ (ao sS))) eE))))))))))))) (aR (bZ (ao sS))))
local macro_rules | `(tactic| simp_arith [$ts,*])=>`(tactic| simp only [e_bin,e_dat,e_bv,e_and,e_or,e_not,e_if,e_ifv,fVar,fTst,fTru,truD,fCst,dat,still,fCal,fFun,aCons,aNil,bCons,bNil,oCons,fSet,fSeq,fRet,fRetV,fNext,fNeg,fLst,fTup,allIm,iB,iV,iB2,iV2,itD,itD2,fLC,frB,fPar,setM,fUnp,gTp,gsCons,gsNil,gNm,LIM,add_int,sub_int,le_int,lt_int,ge_int,gt_int,eq_int,eq_strs,ne_strs,in_strs,ix_t,ix_l,a_t0,a_t1,a_t2,a_t3,a_t4,a_t5,a_t6,rst_same,r_ow,r_bool,r_int,r_str,r_tl,Option.bind_some,Option.map_some,List.getElem?_cons_zero,List.getElem?_cons_succ,List.set_cons_zero,List.set_cons_succ,List.map_cons,List.map_nil,List.length_cons,List.length_nil,Bool.not_true,Bool.not_false,if_true,if_false,ite_self,Bool.false_eq_true,Option.join,id_eq,Nat.reduceAdd,Nat.reduceLeDiff,Nat.reduceLT,and_true,true_and,and_self,String.reduceBEq,Bool.or_false,Bool.or_true,Bool.false_or,Bool.true_or,Bool.and_true,Bool.and_false,Bool.true_and,Bool.false_and,decide_true,decide_false,reduceCtorEq,eq_bool,ne_bool,ne_int,len_l,len_t,beq_self_eq_true,List.length_map,h_ix0,h_ix1,h_ix2,h_ix3,k_ix0,k_ix1,k_ix2,k_ix3,k_ix4,k_ix5,noLs_strs,noLs_ints,$ts,*])
theorem bH {C:Ce} {b L k:Nat} {m:Int} (h:Bf L C b (k + 1)) (h0:0 < m) (h1:m < 1073741824):
  ∃t C',aM [.ce b,.im (.int m)] C=some (.im (.int t),C')∧0≤t∧t < m∧Bf L C' b k:=by
 obtain ⟨hL,x,y,z,hc,hx,hy,hy2,hz,hz2⟩:=h
 refine hide fun GG gg=>?_
 have i0:Ec 3 0=some 0:=rfl
 have i2:Ec 3 2=some 2:=rfl
 by_cases hp:0 < x
 ·refine gg ⟨x % m,C.set b [x / m,y,z],dG [some (.ce b),some (.im (.int m)),none,none] rfl rfl ?_ rfl (by simp),Int.emod_nonneg _ (by omega),Int.emod_lt_of_pos _ h0,⟨by simpa using hL,x / m,y,z,zX hc,Int.ediv_nonneg hx (by omega),hy,hy2,hz,by omega⟩⟩
  simp_arith [ur,vm,hc,hp,mod_eq h0,fdiv_eq h0 h1,Cj,yj,zX hc,i0,i2]
 ·have o0:0≤(y + 39373 * (z + 1)) ^ 5 % 2147483647:=Int.emod_nonneg _ (by omega)
  have o1:(y + 39373 * (z + 1)) ^ 5 % 2147483647 < 2147483647:=Int.emod_lt_of_pos _ (by omega)
  have pw:lJ (.int (y + 39373 * (z + 1))) (.int 5)=some (.im (.int ((y + 39373 * (z + 1)) ^ 5))):=pow_eq (by omega) (by omega) (by omega)
  obtain ⟨q,qe⟩:∃q,(y + 39373 * (z + 1)) ^ 5=q:=⟨_,rfl⟩
  rw [qe] at o0 o1 pw
  obtain ⟨once,ho⟩:∃o,q % 2147483647=o:=⟨_,rfl⟩
  rw [ho] at o0 o1
  have c1:∀i,lH (.int i) (.int 2147483629)=some (.im (.int (i % 2147483629))):=fun i=>mod_eq (by omega)
  refine gg ⟨(once * (once % 40009 + 7) + (z + 1) * 7919) % 2147483629 / 64 % m,C.set b [x,y,z + 1],dG [some (.ce b),some (.im (.int m)),none,none] rfl rfl ?_ rfl (by simp),Int.emod_nonneg _ (by omega),Int.emod_lt_of_pos _ h0,⟨by simpa using hL,x,y,z + 1,zX hc,hx,hy,hy2,by omega,by omega⟩⟩
  simp_arith [ur,vm,hc,hp,Cj,yj,zX hc,mul_eq (i:=39373) (j:=z + 1) (.inl (by omega)),pw,mod_eq (i:=q) (j:=2147483647) (by omega),ho,mod_eq (i:=once) (j:=40009) (by omega),mul_eq (i:=once) (j:=once % 40009 + 7) (.inl (by omega)),mul_eq (i:=z + 1) (j:=7919) (.inr (by omega)),c1,i0,i2,fdiv_eq (j:=64) (by omega) (by omega),mod_eq h0]
theorem wD {C:Ce} {b L j:Nat} (h:Bf L C b (j + 4)):
  ∃k C',jJ [.ce b] C=some (.im (.int k),C')∧0≤k∧k≤99999∧Bf L C' b j:=by
 refine hide fun GG gg=>?_
 obtain ⟨k1,C1,e1,a1,b1,h1⟩:=bH (m:=6) h (by decide) (by decide)
 obtain ⟨k2,C2,e2,a2,b2,h2⟩:=bH (m:=12) h1 (by decide) (by decide)
 obtain ⟨k3,C3,e3,a3,b3,h3⟩:=bH (m:=40) h2 (by decide) (by decide)
 obtain ⟨k4,C4,e4,a4,b4,h4⟩:=bH (m:=99999) h3 (by decide) (by decide)
 obtain ⟨k,e,k0,k9⟩:∃k:Int,(jB [PyData.int 0,.int 0,.int 0,.int 1,.int 1,.int 2] k1=some (.int 0)∧k=k2∨jB [PyData.int 0,.int 0,.int 0,.int 1,.int 1,.int 2] k1=some (.int 1)∧k=k3∨jB [PyData.int 0,.int 0,.int 0,.int 1,.int 1,.int 2] k1=some (.int 2)∧k=99999 - k4)∧0≤k∧k≤99999:=by
  have hk:k1=0∨k1=1∨k1=2∨k1=3∨k1=4∨k1=5:=by omega
  rcases hk with rfl | rfl | rfl | rfl | rfl | rfl
  iterate 3 exact ⟨k2,.inl ⟨rfl,rfl⟩,by omega,by omega⟩
  iterate 2 exact ⟨k3,.inr (.inl ⟨rfl,rfl⟩),by omega,by omega⟩
  exact ⟨99999 - k4,.inr (.inr ⟨rfl,rfl⟩),by omega,by omega⟩
 refine gg ⟨k,C4,dG [some (.ce b),none] rfl rfl ?_ rfl (h.eq h4),k0,k9,h4⟩
 rcases e with ⟨e,rfl⟩ | ⟨e,rfl⟩ | ⟨e,rfl⟩ <;> simp_arith [Gp,e1,e2,e3,e4,e]
theorem O5 {C:Ce} {b L j:Nat} (h:Bf L C b (j + 4)):
  ∃k C',sJ [.ce b] C=some (.im (.int k),C')∧0≤k∧k≤1000000000∧Bf L C' b j:=by
 refine hide fun GG gg=>?_
 obtain ⟨k2,C2,e2,a2,b2,h2⟩:=bH (m:=9) h (by decide) (by decide)
 obtain ⟨k3,C3,e3,a3,b3,h3⟩:=bH (m:=20) h2 (by decide) (by decide)
 obtain ⟨k4,C4,e4,a4,b4,h4⟩:=bH (m:=3) h3 (by decide) (by decide)
 obtain ⟨k1,C1,e1,a1,b1,h1⟩:=bH (m:=5) h4 (by decide) (by decide)
 obtain ⟨k,e,k0,k9⟩:∃k:Int,(jB [PyData.int 0,.int 1,.int 1,.int 1,.int 2] k1=some (.int 0)∧k=k2∨jB [PyData.int 0,.int 1,.int 1,.int 1,.int 2] k1=some (.int 1)∧k=10 * k3∨jB [PyData.int 0,.int 1,.int 1,.int 1,.int 2] k1=some (.int 2)∧k=1000000000 - k4)∧0≤k∧k≤1000000000:=by
  have hk:k1=0∨k1=1∨k1=2∨k1=3∨k1=4:=by omega
  rcases hk with rfl | rfl | rfl | rfl | rfl
  ·exact ⟨k2,.inl ⟨rfl,rfl⟩,by omega,by omega⟩
  iterate 3 exact ⟨10 * k3,.inr (.inl ⟨rfl,rfl⟩),by omega,by omega⟩
  exact ⟨1000000000 - k4,.inr (.inr ⟨rfl,rfl⟩),by omega,by omega⟩
 have m1:lK (.int 10) (.int k3)=some (.im (.int (10 * k3))):=mul_eq (.inl (by omega))
 have pw:lJ (.int 10) (.int 9)=some (.im (.int 1000000000)):=by rfl
 refine gg ⟨k,C1,dG [some (.ce b)] rfl rfl ?_ rfl (h.eq h1),k0,k9,h1⟩
 rcases e with ⟨e,rfl⟩ | ⟨e,rfl⟩ | ⟨e,rfl⟩ <;> simp_arith [Gq,e1,e2,e3,e4,e,m1,pw]
theorem qN {C:Ce} {b L j:Nat} {m:Int} (h:Bf L C b (j + 2)) (h0:0≤m) (h1:m≤1000):
  ∃k C',gB [.ce b,.im (.int m)] C=some (.im (.int k),C')∧0≤k∧k≤m∧Bf L C' b j:=by
 refine hide fun GG gg=>?_
 obtain ⟨k1,C1,e1,a1,b1,h1'⟩:=bH (m:=3) h (by decide) (by decide)
 by_cases hk:k1=0
 ·subst hk
  exact gg ⟨m,C1,dG [some (.ce b),some (.im (.int m))] rfl rfl (by simp_arith [uv,e1]) rfl (h.eq h1'),h0,Int.le_refl m,h1'.dec⟩
 ·obtain ⟨k2,C2,e2,a2,b2,h2⟩:=bH (m:=m + 1) h1' (by omega) (by omega)
  have hk':(k1==0)=false:=beq_eq_false_iff_ne.mpr hk
  exact gg ⟨k2,C2,dG [some (.ce b),some (.im (.int m))] rfl rfl (by simp_arith [uv,e1,e2,hk']) rfl (h.eq h2),a2,by omega,h2⟩
theorem wF {C:Ce} {b L j:Nat} {m:Int} (h:Bf L C b (j + 200)) (h0:0≤m) (h1:m≤100):
  ∃(ns:List Int) (C':Ce),gm [.ce b,.im (.int m)] C=some (.ow (.list (ns.map .int)),C')∧ns.length=m.toNat∧(∀x∈ns,0≤x∧x≤2000)∧ns.Pairwise (· < ·)∧Bf L C' b j:=by
 refine hide fun GG gg=>?_
 obtain ⟨env',C',e,ns,nx,v4,he,hl,hr,hp,hx0,hx1,hB⟩:=b7 (g:=gNm 4) (body:=jK) (its:=oE 0 m.toNat) (env:=[some (.ce b),some (.im (.int m)),some (.ow (.list [])),some (.im (.int 0)),none]) (C:=C)
  (fun i env C1=>∃(ns:List Int) (nx:Int) (v4:Option Vl),env=[some (.ce b),some (.im (.int m)),some (.ow (.list (ns.map .int))),some (.im (.int nx)),v4]∧ns.length=i∧(∀x∈ns,0≤x∧x < nx)∧ns.Pairwise (· < ·)∧0≤nx∧nx≤11 * i∧Bf L C1 b (j + 2 * (100 - i)))
  ⟨[],0,none,rfl,rfl,(fun _ m=>nomatch m),List.Pairwise.nil,by decide,by decide,h⟩ (fun i d env C1 hd hI=>by
   obtain ⟨ns,nx,v4,rfl,hl,hr,hp,hx0,hx1,hB⟩:=hI
   obtain ⟨rfl,hi⟩:=kI hd
   refine hide fun GG gg=>?_
   rw [yG (j) 2 (by omega:i < 100)] at hB
   obtain ⟨k1,C2,e1,a1,b1,sO⟩:=bH (m:=9) hB (by decide) (by decide)
   obtain ⟨k2,C3,e2,a2,b2,hB2⟩:=bH (m:=3) sO (by decide) (by decide)
   obtain ⟨y,y0,y1,hy⟩:∃y:Int,0≤y∧y≤9∧jB [PyData.int 0,.int 0,.int (1 + k1)] k2=some (.int y):=by
    have hk:k2=0∨k2=1∨k2=2:=by omega
    rcases hk with rfl | rfl | rfl
    ·exact ⟨0,by omega,by omega,rfl⟩
    ·exact ⟨0,by omega,by omega,rfl⟩
    ·exact ⟨1 + k1,by omega,by omega,rfl⟩
   have lm:(ns.length < 1000000)=True:=eq_true (by omega)
   refine gg ⟨_,.nx,[some (.ce b),some (.im (.int m)),some (.ow (.list ((ns++[nx + y]).map .int))),some (.im (.int (nx + y + 1))),some (.im (.int (0 + i)))],C3,rfl,?_,.inl rfl,ns++[nx + y],nx + y + 1,_,rfl,by simp [hl],fun x hx=>?_,?_,by omega,by omega,hB2⟩
   ·simp_arith [jK,e1,e2,hy,oA,oJ,lm,List.map_append]
   ·rcases List.mem_append.mp hx with hx | hx
    ·have:=hr x hx; omega
    ·rw [List.mem_singleton.mp hx]; omega
   ·rw [List.pairwise_append]
    refine ⟨hp,by simp,fun x hx z hz=>?_⟩
    rw [List.mem_singleton.mp hz]
    have:=hr x hx
    omega)
 rw [jZ] at hl hx1 hB
 subst he
 refine gg ⟨ns,C',dG [some (.ce b),some (.im (.int m)),none,none,none] rfl rfl ?_ rfl (h.eq hB),hl,fun x hx=>?_,hp,hB.mono (Nat.le_add_right _ _)⟩
 ·simp_arith [pK,fK,Dv,Gh (m:=m) (by omega) (by omega),e]
 ·have:=hr x hx
  omega
theorem RP {C:Ce} {b L j:Nat} {size:Int} (h:Bf L C b (j + 8)) (h0:0≤size) (h1:size≤8):
  ∃(cs:List Nat) (C':Ce),cG .one dN mY [some (.im (.str abc)),some (.ce b)] (oE 0 size.toNat) C=some ((cs.map fun c=>.str ⟨#[c]⟩),C')∧cs.length=size.toNat∧(∀c∈cs,97≤c∧c≤122)∧Bf L C' b j:=by
 obtain ⟨ys,C',e,hB,hl,hr⟩:=yt (T:=.one) (fe:=mY) (fs:=[some (.im (.str abc)),some (.ce b)]) (fun i C1=>Bf L C1 b (j + (8 - i))) (fun _ y=>∃c:Nat,y=.str ⟨#[c]⟩∧97≤c∧c≤122) (its:=oE 0 size.toNat) (C:=C) (k:=0) h (fun i d C1 hd hB=>by
  obtain ⟨rfl,hi⟩:=kI hd
  rw [Nat.zero_add] at hB ⊢
  rw [Ow (j) (by omega:i < 8)] at hB
  obtain ⟨k1,C2,e1,a1,b1,sO⟩:=bH (m:=26) hB (by decide) (by decide)
  refine ⟨_,.im (.str ⟨#[97 + k1.toNat]⟩),[some (.im (.int (0 + i))),some (.im (.str abc)),some (.ce b)],C2,.str ⟨#[97 + k1.toNat]⟩,rfl,?_,rfl,⟨_,rfl,by omega,by omega⟩,sO⟩
  simp_arith [jj,List.cons_append,List.nil_append,e1,bz,letters k1 a1 b1])
 rw [jZ] at hB hl
 obtain ⟨cs,rfl,hcs⟩:∃cs:List Nat,ys=cs.map (fun c=>.str ⟨#[c]⟩)∧∀c∈cs,97≤c∧c≤122:=by
  clear e hl hB
  induction ys with
  | nil=>exact ⟨[],rfl,fun _ m=>(nomatch m)⟩
  | cons y ys ih=>
   obtain ⟨c,rfl,c1,c2⟩:=hr 0 y rfl
   obtain ⟨cs,rfl,h2⟩:=ih fun i z hz=>hr (i + 1) z (by simpa using hz)
   exact ⟨c::cs,rfl,fun x hx=>by
    rcases List.mem_cons.mp hx with rfl | hx
    ·exact ⟨c1,c2⟩
    ·exact h2 x hx⟩
 exact ⟨cs,C',e,by simpa using hl,hcs,hB.mono (Nat.le_add_right _ _)⟩
theorem RQ {C:Ce} {z:Str} (hz:z.length≤8):cG .one dN tM [some (.im (.str z))] (chars abc) C=some (((List.range 26).map (lW z)).map .str,C):=by
 rw [pC (fun _=>true) (fun d=>match d with | .str c=>.str (Txt.slice z none (some 7)++c) | _=>.none) fun d hd=>?_]
 ·rw [yx,List.filter_eq_self.mpr fun _ _=>rfl,List.map_map,List.map_map]
  rfl
 ·rw [yx] at hd
  obtain ⟨i,hi,rfl⟩:=List.mem_map.mp hd
  refine ⟨_,rfl,rfl,fun _=>⟨.im (.str (Txt.slice z none (some 7)++⟨#[97 + i]⟩)),[some (.im (.str ⟨#[97 + i]⟩)),some (.im (.str z))],?_,rfl⟩⟩
  have h1:(z.length≤1000000)=True:=eq_true (by omega)
  have h2:((Txt.slice z none (some 7)).length + Str.length ⟨#[97 + i]⟩≤1000000)=True:=eq_true (by
   have:=vp z
   show _ + 1≤_
   omega)
  simp_arith [jj,List.cons_append,List.nil_append,PJ,Rh,Pz,Ye,bf,h1,h2]
theorem RT {C:Ce} {cs zs:List Str}:cG .one tO tQ [some (.im (.list (zs.map .str)))] (cs.map .str) C=some ((cs.filter fun o=>decide (o∉zs)).map .str,C):=by
 refine cu PyData.str (fun o=>decide (o∉zs)) PyData.str fun o _=>⟨[.str o],rfl,?_,fun _=>⟨.im (.str o),_,rfl,rfl⟩⟩
 have hi:iI (.str o) (.list (zs.map .str))=some (.im (.bool (decide (o∉zs)))):=by
  have:inB (.str o) (.list (zs.map .str))=some (inD (.str o) (zs.map .str)):=if_pos (by rw [nR]; rfl)
  unfold iI
  rw [this,vq,Option.map_some,decide_not]
 simp_arith [jj,List.cons_append,List.nil_append,hi]
theorem RV {cs:List Nat} (h:cs.length≤100):zT (.str (Str.ofString "")) (.list (cs.map fun c=>.str ⟨#[c]⟩))=some (.im (.str (Txt.join (Str.ofString "") (cs.map fun c=>⟨#[c]⟩)))):=by
 simp only [zT,qH]
 refine if_pos ?_
 rw [List.map_map,Iv,Kq,Nat.mul_zero]
 unfold LIM
 omega
theorem RW {C:Ce} {b L j:Nat} {v1 v4 v5 v6:Option Vl} {zs:List Str} (h:Bf L C b (j + 12)) (hzs:∀z∈zs,nameB z=true) (hl:zs.length < 26):
  ∃z C' w5 w6,jr [some (.ce b),v1,some (.im (.str abc)),some (.ow (.list (zs.map .str))),v4,v5,v6] C=some (.nx,[some (.ce b),v1,some (.im (.str abc)),some (.ow (.list ((zs++[z]).map .str))),v4,w5,w6],C')∧nameB z=true∧z∉zs∧Bf L C' b j:=by
 refine hide fun GG gg=>?_
 obtain ⟨k1,C1,e1,a1,b1,sO⟩:=bH (m:=3) h (by decide) (by decide)
 obtain ⟨size,s0,s1,es⟩:∃size:Int,1≤size∧size≤8∧jB [PyData.int 1,.int 8,.int 2] k1=some (.int size):=by
  have hk:k1=0∨k1=1∨k1=2:=by omega
  rcases hk with rfl | rfl | rfl
  ·exact ⟨1,by omega,by omega,rfl⟩
  ·exact ⟨8,by omega,by omega,rfl⟩
  ·exact ⟨2,by omega,by omega,rfl⟩
 obtain ⟨cs,C2,e2,cl,hc,hB2⟩:=RP (j:=j + 3) sO (by omega:0≤size) s1
 have hj:=RV (cs:=cs) (by omega)
 have hz0:=Kf (l:=cs) (by omega) (by omega) hc
 obtain ⟨z0,aas⟩:∃z,z=Txt.join (Str.ofString "") (cs.map fun c=>⟨#[c]⟩):=⟨_,rfl⟩
 rw [←aas] at hj hz0
 obtain ⟨k3,C3,e3,a3,b3,hB3⟩:=bH (m:=3) hB2 (by decide) (by decide)
 obtain ⟨z1,C4,t4,hz1,T6⟩:∃z1 C4,jg (qt (fTst (aG o7 (aB (fCal aM (aCons (fVar 0) (aCons (fCst (.int 3)) aNil)))) (aB (fCst (.int 0))))) (fTst (aG t6 (aF 3) (aB (fLst aNil))))) (fSet 6 (aG bf (aB (PJ (aB (aG bz (aF 3) (aB (fCal aM (aCons (fVar 0) (aCons (fFun jX (bCons (aF 3) bNil)) aNil)))))) Rh (Pz (aB (fCst (.int 7)))))) (aB (aG bz (aF 2) (aB (fCal aM (aCons (fVar 0) (aCons (fCst (.int 26)) aNil)))))))) fNext [some (.ce b),v1,some (.im (.str abc)),some (.ow (.list (zs.map .str))),v4,some (.im (.int size)),some (.im (.str z0))] C2
   =some (.nx,[some (.ce b),v1,some (.im (.str abc)),some (.ow (.list (zs.map .str))),v4,some (.im (.int size)),some (.im (.str z1))],C4)∧nameB z1=true∧Bf L C4 b j:=by
  have ne:=ne_nil zs hzs
  by_cases hk:k3=0
  ·subst hk
   cases zs with
   | nil=>
    rw [List.map_nil] at ne
    exact ⟨z0,C3,by simp_arith [e3,ne,List.isEmpty_nil],hz0,hB3.mono (Nat.le_add_right _ 2)⟩
   | cons y ys=>
    rw [List.length_cons] at hl
    obtain ⟨k5,C5,e5,a5,b5,Yr⟩:=bH (m:=(ys.length:Int) + 1) hB3 (by omega) (by omega)
    obtain ⟨k6,C6,e6,a6,b6,R0⟩:=bH (m:=26) Yr (by decide) (by decide)
    obtain ⟨x,mx,_,ix⟩:=Rr (zs:=y::ys) a5 (by rw [List.length_cons]; omega)
    have nx:=hzs x mx
    have n8:=(vz nx).2.1
    have c7:=vp x
    have h1:(x.length≤1000000)=True:=eq_true (by omega)
    have h2:bf (.str (Txt.slice x none (some 7))) (.str ⟨#[97 + k6.toNat]⟩)=some (.im (.str (lW x k6.toNat))):=if_pos (by show _ + 1≤1000000; omega)
    refine ⟨lW x k6.toNat,C6,?_,yu nx (by omega),R0⟩
    rw [List.map_cons] at ne ix ⊢
    have ix2:=ix
    unfold bz at ix2
    have e5':aM [.ce b,.im (.int ((ys.length + 1:Nat):Int))] C3=some (.im (.int k5),C5):=e5
    simp_arith [e3,ne,List.isEmpty_cons,e5',ix2,bz,letters k6 a6 b6,e6,PJ,Rh,Pz,Ye,h1,h2]
  ·have hk':(k3==0)=false:=beq_eq_false_iff_ne.mpr hk
   exact ⟨z0,C3,by simp_arith [e3,hk'],hz0,hB3.mono (Nat.le_add_right _ 2)⟩
 obtain ⟨k,hk,hnew⟩:=Oj z1 hl
 have n8:=(vz hz1).2.1
 generalize hcs:z1::(List.range 26).map (lW z1)=ca
 have hlc:ca.length=27:=by rw [←hcs]; simp
 have mem:lW z1 k∈ca.filter fun o=>decide (o∉zs):=List.mem_filter.mpr ⟨by rw [←hcs]; exact List.mem_cons_of_mem _ (List.mem_map.mpr ⟨k,List.mem_range.mpr hk,rfl⟩),decide_eq_true hnew⟩
 cases hf:ca.filter fun o=>decide (o∉zs) with
 | nil=>rw [hf] at mem; cases mem
 | cons z' r=>
  have mz:z'∈ca.filter fun o=>decide (o∉zs):=by rw [hf]; exact List.mem_cons_self
  obtain ⟨m1,m2⟩:=List.mem_filter.mp mz
  refine gg ⟨z',C4,some (.im (.int size)),some (.im (.str z1)),?_,?_,of_decide_eq_true m2,T6⟩
  ·have f1:=RQ (C:=C4) n8
   have f2:=RT (C:=C4) (cs:=ca) (zs:=zs)
   rw [hf] at f2
   have f3:bf (.list [.str z1]) (.list (((List.range 26).map (lW z1)).map .str))=some (.ow (.list (ca.map .str))):=by
    rw [←hcs]
    exact add_l (xs:=[.str z1]) (by simp)
   have lf:(z'::r).length≤27:=by rw [←hf,←hlc]; exact List.length_filter_le _ _
   rw [List.length_cons] at lf
   have g1:((List.range 26).length≤1000000)=True:=eq_true (by simp)
   have g2:(r.length + 1≤1000000)=True:=eq_true (by omega)
   have g3:(zs.length < 1000000)=True:=eq_true (by omega)
   have g4:=noLs_strs (z'::r)
   have g5:(size.toNat≤1000000)=True:=eq_true (by omega)
   rw [List.map_cons] at f2 g4
   simp_arith [jr,e1,es,Io,Dv,Gh (m:=size) (by omega) (by omega),cl,vG,e2,g5,hj,↓t4,f1,f2,f3,g1,g2,g3,g4,oA,oJ,List.map_append]
  ·rw [←hcs] at m1
   rcases List.mem_cons.mp m1 with rfl | m1
   ·exact hz1
   ·obtain ⟨i,hi,rfl⟩:=List.mem_map.mp m1
    exact yu hz1 (List.mem_range.mp hi)
theorem O6 {C:Ce} {b L j:Nat} {m:Int} (h:Bf L C b (j + 240)) (h0:0≤m) (h1:m≤20):
  ∃(zs:List Str) (C':Ce),mZ [.ce b,.im (.int m)] C=some (.ow (.list (zs.map .str)),C')∧Names zs∧zs.length=m.toNat∧Bf L C' b j:=by
 refine hide fun GG gg=>?_
 obtain ⟨env',C',e,zs,v4,v5,v6,he,hl,hN,hB⟩:=b7 (g:=gNm 4) (body:=jr) (its:=oE 0 m.toNat) (env:=[some (.ce b),some (.im (.int m)),some (.im (.str abc)),some (.ow (.list [])),none,none,none]) (C:=C)
  (fun i env C1=>∃(zs:List Str) (v4 v5 v6:Option Vl),env=[some (.ce b),some (.im (.int m)),some (.im (.str abc)),some (.ow (.list (zs.map .str))),v4,v5,v6]∧zs.length=i∧Names zs∧Bf L C1 b (j + 12 * (20 - i)))
  ⟨[],none,none,none,rfl,rfl,⟨List.nodup_nil,fun _ m=>(nomatch m)⟩,h⟩ (fun i d env C1 hd hI=>by
   obtain ⟨zs,v4,v5,v6,rfl,hl,hN,hB⟩:=hI
   obtain ⟨rfl,hi⟩:=kI hd
   refine hide fun GG gg=>?_
   rw [yG (j) 12 (by omega:i < 20)] at hB
   obtain ⟨z,C2,w5,w6,e,nz,nm,hB2⟩:=RW (v1:=some (.im (.int m))) (v4:=some (.im (.int (0 + i)))) (v5:=v5) (v6:=v6) hB hN.2 (by omega)
   refine gg ⟨_,.nx,_,C2,rfl,e,.inl rfl,zs++[z],_,w5,w6,rfl,by simp [hl],⟨?_,fun y hy=>?_⟩,hB2⟩
   ·rw [List.nodup_append]
    refine ⟨hN.1,by simp,fun x hx y hy e=>?_⟩
    rw [List.mem_singleton.mp hy] at e
    exact nm (e ▸ hx)
   ·rcases List.mem_append.mp hy with hy | hy
    ·exact hN.2 y hy
    ·rw [List.mem_singleton.mp hy]; exact nz)
 rw [jZ] at hl hB
 subst he
 refine gg ⟨zs,C',dG [some (.ce b),some (.im (.int m)),none,none,none,none,none] rfl rfl ?_ rfl (h.eq hB),hN,hl,hB.mono (Nat.le_add_right _ _)⟩
 simp_arith [vQ,fK,Dv,Gh (m:=m) (by omega) (by omega),e]
theorem O7 {C:Ce} {b L j:Nat} {zs:List Str} (h:Bf L C b (j + 10)) (hz:8≤zs.length):
  ∃(ps:List (Str×Str)) (C':Ce),nj [.ce b,.im (.list (zs.map .str))] C=some (.ow (.list (ps.map cI)),C')∧cg zs ps∧1≤ps.length∧ps.length≤8∧Bf L C' b j:=by
 refine hide fun GG gg=>?_
 obtain ⟨m,C1,e1,a1,b1,sO⟩:=qN (m:=8) (j:=j + 8) h (by decide) (by decide)
 obtain ⟨M,hM,M1,M8⟩:∃M:Int,(if m > 1 then m else 1)=M∧1≤M∧M≤8:=⟨_,rfl,by split <;> omega,by split <;> omega⟩
 obtain ⟨env',C',e,ps,v3,he,hl,hP,hB⟩:=b7 (g:=gNm 3) (body:=ni) (its:=oE 0 M.toNat) (env:=[some (.ce b),some (.im (.list (zs.map .str))),some (.ow (.list [])),none]) (C:=C1)
  (fun i env C2=>∃(ps:List (Str×Str)) (v3:Option Vl),env=[some (.ce b),some (.im (.list (zs.map .str))),some (.ow (.list (ps.map cI))),v3]∧ps.length=i∧cg zs ps∧Bf L C2 b (j + (8 - i)))
  ⟨[],none,rfl,rfl,(fun i x e=>by simp at e),sO⟩ (fun i d env C2 hd hI=>by
   obtain ⟨ps,v3,rfl,hl,hP,hB⟩:=hI
   obtain ⟨rfl,hi⟩:=kI hd
   refine hide fun GG gg=>?_
   rw [Ow (j) (by omega:i < 8)] at hB
   obtain ⟨k,C3,e2,a2,b2,hB2⟩:=bH (m:=0 + (i:Int) + 1) hB (by omega) (by omega)
   obtain ⟨z,_,hz1,iz⟩:=fP (zs:=zs) (k:=0 + (i:Int)) (by omega) (by omega)
   have hz2:zs[ps.length]?=some z:=by rw [hl]; rw [show ((0:Int) + (i:Int)).toNat=i by omega] at hz1; exact hz1
   obtain ⟨y,my,hy1,iy⟩:=fP (zs:=Str.ofString ""::ps.map (·.1)) (k:=k) a2 (by rw [List.length_cons,List.length_map,hl]; omega)
   have hy2:y=Str.ofString ""∨∃j,j < ps.length∧zs[j]?=some y:=by
    rcases List.mem_cons.mp my with rfl | my
    ·exact .inl rfl
    ·obtain ⟨x,hx,rfl⟩:=List.mem_map.mp my
     obtain ⟨j,hj,rfl⟩:=List.getElem_of_mem hx
     exact .inr ⟨j,hj,(hP j ps[j] (List.getElem?_eq_getElem hj)).1⟩
   have t1:=rT (fe:=tR) (C:=C2) (ps:=ps) rfl
   have t2:bf (.list [.str (Str.ofString "")]) (.list ((ps.map (·.1)).map .str))=some (.ow (.list ((Str.ofString ""::ps.map (·.1)).map .str))):=add_l (xs:=[.str (Str.ofString "")]) (by rw [List.length_map,List.length_map]; show 1 + ps.length≤_; omega)
   have g1:(ps.length≤1000000)=True:=eq_true (by omega)
   have g2:(ps.length < 1000000)=True:=eq_true (by omega)
   refine gg ⟨_,.nx,[some (.ce b),some (.im (.list (zs.map .str))),some (.ow (.list ((ps++[(z,y)]).map cI))),some (.im (.int (0 + i)))],C3,rfl,?_,.inl rfl,ps++[(z,y)],_,rfl,by simp [hl],hP.snoc hz2 hy2,hB2⟩
   rw [List.map_cons] at iy t2
   simp_arith [ni,iz,t1,t2,g1,g2,e2,iy,oA,oJ,List.map_append]
   rfl)
 rw [jZ] at hl hB
 subst he
 refine gg ⟨ps,C',dG [some (.ce b),some (.im (.list (zs.map .str))),none,none] rfl rfl ?_ rfl (h.eq hB),hP,by omega,by omega,hB.mono (Nat.le_add_right _ _)⟩
 simp_arith [vR,fK,Dv,e1,zQ,hM,Gh (m:=M) (by omega) (by omega),e]
theorem Jh {b L j:Nat} {C:Ce} (h:Bf L C b (j + 2)):
  ∃k m t C1 C',aM [.ce b,.im (.int 2)] C=some (.im (.int k),C1)∧jB [PyData.int 9,.int 3] k=some (.int m)∧aM [.ce b,.im (.int m)] C1=some (.im (.int t),C')∧1≤1 + t∧1 + t≤9∧Bf L C' b j:=by
 obtain ⟨k,C1,e1,a1,b1,sO⟩:=bH (m:=2) h (by decide) (by decide)
 obtain ⟨m,m0,m9,em⟩:∃m:Int,3≤m∧m≤9∧jB [PyData.int 9,.int 3] k=some (.int m):=by
  have hk:k=0∨k=1:=by omega
  rcases hk with rfl | rfl
  ·exact ⟨9,by omega,by omega,rfl⟩
  ·exact ⟨3,by omega,by omega,rfl⟩
 obtain ⟨t,C2,e2,a2,b2,hB2⟩:=bH (m:=m) sO (by omega) (by omega)
 exact ⟨k,m,t,C1,C2,e1,em,e2,by omega,by omega,hB2⟩
theorem Gu {C:Ce} {b L j:Nat} {num:Int} {zs own:List Str} {ps rk lv ru env} (hE:HE b zs ps own rk lv ru env) (h:Bf L C b (j + 20)) (h9:zs.length=9) (ho:0 < own.length) (ho8:own.length≤8) (hnum:0≤num∧num≤2000) (hl:rk.length < 1000):
  ∃r e1 env' C',gNm 7 (.int num) env=some e1∧jx e1 C=some (.nx,env',C')∧HE b zs ps own (rk++[r]) lv ru env'∧Gd zs own r∧r.1=num∧Bf L C' b j:=by
 cases hE with
 | mk v7 v8 v9 v10 v11 jO j0 fM fO jc KN IW=>
 refine hide fun GG gg=>?_
 obtain ⟨d1,C1,e1,a1,b1,sO⟩:=wD (j:=j + 16) h
 obtain ⟨d2,C2,e2,a2,b2,hB2⟩:=wD (j:=j + 12) sO
 obtain ⟨lo,hi,es,h1,h2,h3⟩:=TX d1 d2
 have x1:0≤lo:=by omega
 have x2:hi≤99999:=by omega
 obtain ⟨k1,C3,e3,a3,b3,hB3⟩:=bH (m:=9) hB2 (by decide) (by decide)
 obtain ⟨who,m1,_,i1⟩:=fP (zs:=zs) a3 (by omega)
 obtain ⟨k2,C4,e4,a4,b4,T6⟩:=bH (m:=own.length) hB3 (by omega) (by omega)
 obtain ⟨wh,m2,_,i2⟩:=fP (zs:=own) a4 (by omega)
 obtain ⟨k,m,t,C5,C6,e5,em,e6,t1,t9,R0⟩:=Jh (j:=j + 8) T6
 have g:(rk.length < 1000000)=True:=eq_true (by omega)
 refine gg ⟨(num,who,1 + t,wh,lo,hi),_,Gi b zs ps own (rk++[(num,who,1 + t,wh,lo,hi)]) lv ru (some (.im (.int num))) (some (.ow (.list [.int lo,.int hi]))) (some (.im (.str who))) (some (.im (.str wh))) v11 jO j0 fM fO jc KN IW,C6,rfl,?_,.mk ..,⟨hnum,m1,⟨t1,t9⟩,m2,⟨x1,h1,x2⟩⟩,rfl,R0.mono (Nat.le_add_right _ _)⟩
 simp_arith [jx,Gi,e1,e2,es,e3,i1,e4,i2,e5,em,e6,g,oA,oJ,List.map_append]
 rfl
theorem Dp {C:Ce} {b L j:Nat} {num:Int} {zs own:List Str} {ps rk lv ru env} (hE:HE b zs ps own rk lv ru env) (h:Bf L C b (j + 20)) (h9:zs.length=9) (hz:zs.Nodup) (ho:0 < own.length) (ho8:own.length≤8) (hnum:0≤num∧num≤2000) (hl:lv.length < 1000):
  ∃r e1 env' C',gNm 7 (.int num) env=some e1∧jw e1 C=some (.nx,env',C')∧HE b zs ps own rk (lv++[r]) ru env'∧zY zs own r∧r.1=num∧Bf L C' b j:=by
 cases hE with
 | mk v7 v8 v9 v10 v11 jO j0 fM fO jc KN IW=>
 refine hide fun GG gg=>?_
 obtain ⟨d1,C1,e1,a1,b1,sO⟩:=wD (j:=j + 16) h
 obtain ⟨d2,C2,e2,a2,b2,hB2⟩:=wD (j:=j + 12) sO
 obtain ⟨lo,hi,es,h1,h2,h3⟩:=TX d1 d2
 have x1:0≤lo:=by omega
 have x2:hi≤99999:=by omega
 obtain ⟨at_,C3,e3,c1,c2,hB3⟩:=bH (m:=9) hB2 (by decide) (by decide)
 obtain ⟨t,C4,e4,c3,c4,T6⟩:=bH (m:=8) hB3 (by decide) (by decide)
 have q0:0≤(at_ + 1 + t) % 9:=Int.emod_nonneg _ (by omega)
 have q1:(at_ + 1 + t) % 9 < 9:=Int.emod_lt_of_pos _ (by omega)
 have q2:(at_ + 1 + t) % 9≠at_:=by omega
 obtain ⟨tk,mt,ht,it⟩:=fP (zs:=zs) q0 (by omega)
 obtain ⟨gv,mg,hg,ig⟩:=fP (zs:=zs) c1 (by omega)
 have hne:gv≠tk:=fun z=>by
  subst z
  obtain ⟨x1,y1⟩:=List.getElem?_eq_some_iff.mp ht
  obtain ⟨x2,y2⟩:=List.getElem?_eq_some_iff.mp hg
  rcases Nat.lt_trichotomy ((at_ + 1 + t) % 9).toNat at_.toNat with hlt | heq | hgt
  ·exact List.pairwise_iff_getElem.mp hz _ _ x1 x2 hlt (y1.trans y2.symm)
  ·omega
  ·exact List.pairwise_iff_getElem.mp hz _ _ x2 x1 hgt (y2.trans y1.symm)
 obtain ⟨k2,C5,e5,a5,b5,Yr⟩:=bH (m:=own.length) T6 (by omega) (by omega)
 obtain ⟨wh,m2,_,i2⟩:=fP (zs:=own) a5 (by omega)
 obtain ⟨mo,C6,e6,o1,o2,R0⟩:=O5 (j:=j + 5) Yr
 have g:(lv.length < 1000000)=True:=eq_true (by omega)
 refine gg ⟨(num,gv,tk,wh,lo,hi,mo),_,Gi b zs ps own rk (lv++[(num,gv,tk,wh,lo,hi,mo)]) ru (some (.im (.int num))) (some (.ow (.list [.int lo,.int hi]))) v9 (some (.im (.str wh))) (some (.im (.int at_))) (some (.im (.str tk))) j0 fM fO jc KN IW,C6,rfl,?_,.mk ..,⟨hnum,mg,mt,hne,m2,⟨x1,h1,x2⟩,⟨o1,o2⟩⟩,rfl,R0.mono (Nat.le_add_right _ _)⟩
 simp_arith [jw,Gi,e1,e2,es,e3,e4,mod_eq (i:=at_ + 1 + t) (j:=9) (by omega),it,e5,i2,ig,e6,g,oA,oJ,List.map_append]
 rfl
theorem Gv {C:Ce} {b L j:Nat} {zs own:List Str} {rs:List cY} {ps rk lv env} {num:PyData} (hE:HE b zs ps own rk lv (cH rs) env) (h:Bf L C b (j + 40)) (ho:0 < own.length) (ho8:own.length≤8) (hl:rs.length < 1000) (hr:∀r∈rs,pF own r) (nd:(rs.map KQ).Nodup):
  ∃(rs':List cY) (e1 env':En) (C':Ce),gNm 13 num env=some e1∧ju e1 C=some (.nx,env',C')∧HE b zs ps own rk lv (cH rs') env'∧(∀r∈rs',pF own r)∧(rs'.map KQ).Nodup∧rs'.length≤rs.length + 1∧Bf L C' b j:=by
 cases hE with
 | mk v7 v8 v9 v10 v11 jO j0 fM fO jc KN IW=>
 refine hide fun GG gg=>?_
 obtain ⟨k2,C1,e1,a1,b1,sO⟩:=bH (m:=own.length) h (by omega) (by omega)
 obtain ⟨wh,m1,_,i1⟩:=fP (zs:=own) a1 (by omega)
 obtain ⟨sm,C2,e2,o1,o2,hB2⟩:=O5 (j:=j + 35) sO
 obtain ⟨m,C3,e3,m0,m6,hB3⟩:=qN (m:=6) (j:=j + 33) hB2 (by decide) (by decide)
 obtain ⟨env',C4,e,ss,w16,w17,he,hl',hS,hB⟩:=b7 (g:=gNm 16) (body:=nq) (its:=oE 0 m.toNat) (env:=Gi b zs ps own rk lv (cH rs) v7 v8 v9 v10 v11 jO (some (.im num)) (some (.im (gb wh sm))) (some (.ow (.list []))) jc KN IW) (C:=C3)
  (fun i env C1=>∃(ss:List oK) (w16 w17:Option Vl),env=Gi b zs ps own rk lv (cH rs) v7 v8 v9 v10 v11 jO (some (.im num)) (some (.im (gb wh sm))) (some (.ow (.list (ss.map oM)))) w16 w17 IW∧ss.length=i∧(∀s∈ss,Ol own s)∧Bf L C1 b (j + 15 + 3 * (6 - i)))
  ⟨[],jc,KN,rfl,rfl,(fun _ m=>nomatch m),hB3⟩ (fun i d env C1 hd hI=>by
   obtain ⟨ss,w16,w17,rfl,hl,hS,hB⟩:=hI
   obtain ⟨rfl,hi⟩:=kI hd
   refine hide fun GG gg=>?_
   rw [yG (j + 15) 3 (by omega:i < 6)] at hB
   obtain ⟨k,C2,e1,a1,b1,sO⟩:=bH (m:=2 + own.length) hB (by omega) (by omega)
   obtain ⟨pt,mp,_,ip⟩:=fP (zs:=Str.ofString ""::Str.ofString ""::own) (k:=k) a1 (by rw [List.length_cons,List.length_cons]; omega)
   have t2:bf (.list [.str (Str.ofString ""),.str (Str.ofString "")]) (.list (own.map .str))=some (.ow (.list ([PyData.str (Str.ofString ""),.str (Str.ofString "")]++own.map .str))):=add_l (by rw [List.length_map]; show 2 + own.length≤_; omega)
   rw [List.map_cons,List.map_cons] at ip
   obtain ⟨q,qm,t,C5,C6,e5,em,e6,t1,t9,R0⟩:=Jh sO
   have g:(ss.length < 1000000)=True:=eq_true (by omega)
   refine gg ⟨_,.nx,Gi b zs ps own rk lv (cH rs) v7 v8 v9 v10 v11 jO (some (.im num)) (some (.im (gb wh sm))) (some (.ow (.list ((ss++[(1 + t,pt)]).map oM)))) (some (.im (.int (0 + i)))) (some (.im (.str pt))) IW,C6,rfl,?_,.inl rfl,ss++[(1 + t,pt)],_,_,rfl,by simp [hl],fun s hs=>?_,R0⟩
   ·simp_arith [nq,Gi,t2,e1,List.cons_append,List.nil_append,ip,e5,em,e6,g,oA,oJ,List.map_append]
    rfl
   ·rcases List.mem_append.mp hs with hs | hs
    ·exact hS s hs
    ·rw [List.mem_singleton.mp hs]
     refine ⟨t1,t9,?_⟩
     rcases List.mem_cons.mp mp with e | mp
     ·exact .inl e
     ·rcases List.mem_cons.mp mp with e | mp
      ·exact .inl e
      ·exact .inr mp)
 rw [jZ] at hl' hB
 subst he
 have s6:ss.length≤6:=by omega
 obtain ⟨p1,p2,p3⟩:=Ru hr (p:=wh) (s:=sm) (ss:=ss) ⟨m1,⟨o1,o2⟩,s6,hS⟩ nd
 have pk:=V7 rs wh sm ss
 unfold gb at e pk
 unfold dR at pk
 have g:((cH rs).length < 1000000)=True:=eq_true (by unfold cH; rw [List.length_map]; omega)
 refine gg ⟨CZ rs wh sm ss,_,Gi b zs ps own rk lv (cH (CZ rs wh sm ss)) v7 v8 v9 v10 v11 jO (some (.im num)) (some (.im (gb wh sm))) (some (.ow (.list (ss.map oM)))) w16 w17 IW,C4,rfl,?_,.mk ..,p1,p2,p3,hB.mono (by omega)⟩
 simp only [Gi] at e
 simp_arith [ju,Gi,e1,i1,e2,fK,Dv,e3,Gh (m:=m) (by omega) (by omega),e,gr,Cj,yj,pk,g,gb]
theorem R3 {en:En} {C:Ce} {rs:List cY} (h6:en[6]?=some (some (.ow (.dict (cH rs))))) (hl:rs.length≤10) (hn:(rs.map KQ).Nodup):
  ∃rs':List cY,rs'.Perm rs∧fLC (iB (aB (fFun dI (bCons (aF 6) bNil)))) .one dN jt [6] en C=some (.ow (.list (rs'.map jb)),en,C):=by
 obtain ⟨rs',p,e⟩:=Rv rs hl
 refine ⟨rs',p,?_⟩
 have g:(rs'.length≤1000000)=True:=eq_true (by rw [p.length_eq]; omega)
 have key:cG .one dN jt [some (.im (.dict (cH rs)))] (rs'.map fun r=>gb r.1 r.2.1) C=some (rs'.map jb,C):=by
  have:=cu (T:=.one) (ft:=dN) (fe:=jt) (fs:=[some (.im (.dict (cH rs)))]) (C:=C) (fun r:cY=>gb r.1 r.2.1) (fun _=>true) jb (l:=rs') fun r hr=>⟨[gb r.1 r.2.1],rfl,rfl,fun _=>⟨.im (jb r),[some (.im (gb r.1 r.2.1)),some (.im (.dict (cH rs)))],by
   have i:=Yo (p.mem_iff.mp hr) hn
   unfold gb at i ⊢
   have a:bf (.tuple [.str r.1,.int r.2.1]) (.tuple [dR r.2.2])=some (.im (jb r)):=Yn (by show 2 + 1≤_; omega)
   simp_arith [jj,List.cons_append,List.nil_append,i,a],rfl⟩⟩
  rw [List.filter_eq_self.mpr fun _ _=>rfl] at this
  exact this
 simp_arith [h6,e,key,g,rU]
theorem O8 {C:Ce} {b L j:Nat} {zs:List Str} (h:Bf L C b (j + 1536)) (h9:zs.length=9) (hz:zs.Nodup):
  ∃(ps:List (Str×Str)) (ht:dh) (C':Ce),nu [.ce b,.im (.list (zs.map .str))] C=some (.im (.tuple [.list (ps.map cI),bG ht]),C')∧cg zs ps∧1≤ps.length∧eF zs ps ht∧Bf L C' b j:=by
 refine hide fun GG gg=>?_
 obtain ⟨ps,C1,e1,hP,p1,p8,sO⟩:=O7 (zs:=zs) (j:=j + 1526) h (by omega)
 have f1:=rT (fe:=tU) (C:=C1) (ps:=ps) rfl
 have g1:(ps.length≤1000000)=True:=eq_true (by omega)
 obtain ⟨own,Dq⟩:∃own,own=ps.map (·.1):=⟨_,rfl⟩
 have ol:own.length=ps.length:=by rw [Dq,List.length_map]
 rw [←Dq] at f1
 obtain ⟨m2,C2,e2,a2,b2,hB2⟩:=qN (m:=20) (j:=j + 1524) sO (by decide) (by decide)
 obtain ⟨ns2,C3,e3,a3,r3,u3,hB3⟩:=wF (m:=m2) (j:=j + 1324) hB2 a2 (by omega)
 obtain ⟨aau,C4,e4,rk,hE4,Zc,hR4,T6⟩:=b7 (g:=gNm 7) (body:=jx) (its:=ns2.map .int) (env:=Gi b zs ps own [] [] [] none none none none none none none none none none none none) (C:=C3)
  (fun i env C'=>∃rk:List dJ,HE b zs ps own rk [] [] env∧rk.map (·.1)=ns2.take i∧(∀r∈rk,Gd zs own r)∧Bf L C' b (j + 924 + 20 * (20 - i)))
  ⟨[],.mk ..,rfl,(fun _ m=>nomatch m),hB3⟩ (fun i d env C1 hd hI=>by
   obtain ⟨rk,hE,hm,hR,hB⟩:=hI
   have ado:i < 20:=by have:=(List.getElem?_eq_some_iff.mp hd).1; rw [List.length_map] at this; omega
   rw [yG (j + 924) 20 (by omega:i < 20)] at hB
   obtain ⟨x,rfl,hx,mx,hi⟩:=Ja hd
   refine hide fun GG gg=>?_
   have hrk:rk.length=i:=by
    have:=congrArg List.length hm
    rw [List.length_map,List.length_take] at this
    omega
   obtain ⟨r,e1,env',C2,g1,g2,Ys,r1,r2,sO⟩:=Gu (num:=x) hE hB h9 (by omega) (by omega) (r3 x mx) (by omega)
   refine gg ⟨e1,.nx,env',C2,g1,g2,.inl rfl,rk++[r],Ys,?_,fun y hy=>?_,sO⟩
   ·rw [List.map_append,hm,take_snoc hx]
    show _++[r.1]=_
    rw [r2]
   ·rcases List.mem_append.mp hy with hy | hy
    ·exact hR y hy
    ·rw [List.mem_singleton.mp hy]; exact r1)
 rw [List.length_map] at Zc T6
 rw [List.take_length] at Zc
 have hrk:rk.length=ns2.length:=by rw [←Zc,List.length_map]
 obtain ⟨m5,C5,e5,a5,b5,Yr⟩:=qN (m:=16) (j:=j + 922) (T6.mono (Nat.le_add_right _ _)) (by decide) (by decide)
 obtain ⟨ns5,C6,e6,a6,r6,u6,R0⟩:=wF (m:=m5) (j:=j + 722) Yr a5 (by omega)
 obtain ⟨aaw,C7,e7,lv,hE7,Zd,hR7,hB7⟩:=b7 (g:=gNm 7) (body:=jw) (its:=ns5.map .int) (env:=aau) (C:=C6)
  (fun i env C'=>∃lv:List pD,HE b zs ps own rk lv [] env∧lv.map (·.1)=ns5.take i∧(∀r∈lv,zY zs own r)∧Bf L C' b (j + 402 + 20 * (16 - i)))
  ⟨[],hE4,rfl,(fun _ m=>nomatch m),R0⟩ (fun i d env C1 hd hI=>by
   obtain ⟨rk,hE,hm,hR,hB⟩:=hI
   have adq:i < 16:=by have:=(List.getElem?_eq_some_iff.mp hd).1; rw [List.length_map] at this; omega
   rw [yG (j + 402) 20 (by omega:i < 16)] at hB
   obtain ⟨x,rfl,hx,mx,hi⟩:=Ja hd
   refine hide fun GG gg=>?_
   have hrk:rk.length=i:=by
    have:=congrArg List.length hm
    rw [List.length_map,List.length_take] at this
    omega
   obtain ⟨r,e1,env',C2,g1,g2,Ys,r1,r2,sO⟩:=Dp (num:=x) hE hB h9 hz (by omega) (by omega) (r6 x mx) (by omega)
   refine gg ⟨e1,.nx,env',C2,g1,g2,.inl rfl,rk++[r],Ys,?_,fun y hy=>?_,sO⟩
   ·rw [List.map_append,hm,take_snoc hx]
    show _++[r.1]=_
    rw [r2]
   ·rcases List.mem_append.mp hy with hy | hy
    ·exact hR y hy
    ·rw [List.mem_singleton.mp hy]; exact r1)
 rw [List.length_map] at Zd hB7
 rw [List.take_length] at Zd
 have hlv:lv.length=ns5.length:=by rw [←Zd,List.length_map]
 obtain ⟨m8,C8,e8,a8,b8,hB8⟩:=qN (m:=10) (j:=j + 400) (hB7.mono (Nat.le_add_right _ _)) (by decide) (by decide)
 obtain ⟨adt,C9,e9,rs,hE9,hm9,hR9,hN9,hB9⟩:=b7 (g:=gNm 13) (body:=ju) (its:=oE 0 m8.toNat) (env:=aaw) (C:=C8)
  (fun i env C'=>∃rs:List cY,HE b zs ps own rk lv (cH rs) env∧rs.length≤i∧(∀r∈rs,pF own r)∧(rs.map KQ).Nodup∧Bf L C' b (j + 40 * (10 - i)))
  ⟨[],hE7,Nat.le_refl 0,(fun _ m=>nomatch m),List.nodup_nil,hB8⟩ (fun i d env C1 hd hI=>by
   obtain ⟨rs,hE,hm,hR,hN,hB⟩:=hI
   obtain ⟨rfl,hi⟩:=kI hd
   rw [yG (j) 40 (by omega:i < 10)] at hB
   obtain ⟨rs',e1,env',C2,g1,g2,Ys,r1,r2,r3,sO⟩:=Gv (num:=.int (0 + i)) hE hB (by omega) (by omega) (by omega) hR hN
   exact ⟨e1,.nx,env',C2,g1,g2,.inl rfl,rs',Ys,by omega,r1,r2,sO⟩)
 rw [jZ] at hm9 hB9
 cases hE4
 cases hE7
 cases hE9 with
 | mk v7 v8 v9 v10 v11 jO j0 fM fO jc KN IW=>
 obtain ⟨rs',q1,e10⟩:=R3 (C:=C9) (en:=Gi b zs ps own rk lv (cH rs) v7 v8 v9 v10 v11 jO j0 fM fO jc KN IW) rfl (by omega) hN9
 obtain ⟨ps',q2,e11⟩:=Gj ps p8
 refine gg ⟨ps,⟨ps',rk,lv,rs'⟩,C9,dG [some (.ce b),some (.im (.list (zs.map .str))),none,none,none,none,none,none,none,none,none,none,none,none,none,none,none,none,none] rfl rfl ?_ rfl (h.eq hB9),hP,p1,⟨q2,p8,?_,?_,?_,by rw [←Dq]; exact hR4,?_,by rw [←Dq]; exact hR7,?_,?_,?_⟩,hB9.mono (Nat.le_add_right _ _)⟩
 ·simp only [Gi,List.map_nil] at e4 e7 e9 e10
  simp_arith [vU,e1,f1,g1,ol,Fj,e2,e3,fK,e4,e5,e6,e7,Dv,e8,Gh (m:=m8) (by omega) (by omega),e9,↓e10,e11,gr]
  rfl
 ·show rk.length≤20
  omega
 ·show lv.length≤16
  omega
 ·show rs'.length≤10
  rw [q1.length_eq]; omega
 ·show (rk.map (·.1)).Pairwise _
  rw [Zc]; exact u3
 ·show (lv.map (·.1)).Pairwise _
  rw [Zd]; exact u6
 ·rw [←Dq]; exact fun r hr=>hR9 r (q1.mem_iff.mp hr)
 ·exact (q1.map KQ).nodup_iff.mpr hN9
theorem Dr {C:Ce}:∀(l q:List (Str×Str)),((q++l).map (·.1)).Nodup→(q++l).length≤8→tH (.many 2) dN ie ir [] (l.map cI) (rR (iH q)) C=some (rR (iH (q++l)),C)
 | [],q,_,_=>by rw [List.append_nil]; rfl
 | x::l,q,nd,h8=>by
  have ih:=Dr (C:=C) l (q++[x]) (by rw [List.append_assoc]; exact nd) (by rw [List.append_assoc]; exact h8)
  have hx:x.1∉(iH q).map (·.1):=by
   unfold iH
   rw [List.map_map]
   show x.1∉q.map (·.1)
   rw [List.map_append,List.nodup_append] at nd
   exact fun hm=>nd.2.2 _ hm _ List.mem_cons_self rfl
  have hl:(rR (iH q)).length < LIM:=by
   unfold rR iH
   rw [List.length_append] at h8
   rw [List.length_map,List.length_map]
   show _ < 1000000
   omega
  rw [List.map_cons]
  unfold tH
  rw [show TF (.many 2) (cI x)=some [.str x.1,.str x.2] from rfl]
  show (if (rR (iH q)).length < LIM then tH (.many 2) dN ie ir [] (l.map cI) (lV d7 (.inr x.1) (.str x.1) (.str x.2) (rR (iH q))) C else none)=_
  rw [if_pos hl,Om hx]
  have e:iH q++[(x.1,.str x.2)]=iH (q++[x]):=by unfold iH; rw [List.map_append]; rfl
  rw [e,ih,List.append_assoc]
  rfl
theorem R4 {C:Ce} {hs:Option Vl} {q ps:List (Str×Str)} (hl:∀z,cQ q z=cQ ps z):∀{z:Str} {os:List Str},Over (cQ ps) z os→∀(n:Nat) (acc:List Str),os.length < n→acc.length + os.length < 1000→
  ∃z',jG lN lO n [hs,some (.im (.str z)),some (.ow (.dict (rR (iH q)))),some (.ow (.list (acc.map .str)))] C=some (.nx,[hs,some (.im (.str z')),some (.ow (.dict (rR (iH q)))),some (.ow (.list ((acc++os).map .str)))],C):=by
 have hin:∀z,BL (.str z) (.dict (rR (iH q)))=some (.im (.bool (cQ ps z).isSome)):=fun z=>by
  show ((qp (rR (iH q)) (.str z)).map (·.isSome)).map (fun b=>Vl.im (.bool b))=_
  rw [Dd,hl]
  cases cQ ps z <;> rfl
 intro z os ho
 induction ho with
 | @stop z h=>
  intro n acc hn ha
  cases n with
  | zero=>exact absurd hn (Nat.not_lt_zero _)
  | succ n=>
   refine ⟨z,?_⟩
   unfold jG
   simp_arith [hin,h,Option.isSome_none,List.append_nil]
 | @step z y r h _ ih=>
  intro n acc hn ha
  cases n with
  | zero=>exact absurd hn (Nat.not_lt_zero _)
  | succ n=>
   rw [List.length_cons] at hn ha
   obtain ⟨z',e⟩:=ih n (acc++[z]) (by omega) (by rw [List.length_append]; show acc.length + 1 + _ < _; omega)
   refine ⟨z',?_⟩
   have g:(acc.length < 1000000)=True:=eq_true (by omega)
   have i:bz (.dict (rR (iH q))) (.str z)=some (.im (.str y)):=by
    unfold bz Px
    simp only [Dd,hl,h,Option.map_some]
   simp only [List.map_append,List.map_cons,List.map_nil,List.append_assoc,List.cons_append,List.nil_append] at e ⊢
   unfold jG
   simp_arith [hin,h,Option.isSome_some,g,oA,oJ,i,e]
theorem jN {C:Ce} {zs:List Str} {ps:List (Str×Str)} {ht:dh} (hN:Names zs) (hP:cg zs ps) (hG:eF zs ps ht) (z:Str):
  cA [.im (bG ht),.im (.str z)] C=some (.ow (.list ((up ps z).map .str)),C):=by
 have nd:=gO hN hP
 have nd':(ht.ps.map (·.1)).Nodup:=(hG.parts.map (·.1)).nodup_iff.mpr nd
 have hL:ht.ps.length≤8:=by rw [hG.parts.length_eq]; exact hG.p8
 have t:=Dr (C:=C) ht.ps [] nd' hL
 rw [show rR (iH [])=[] from rfl,List.nil_append] at t
 have hul:=V4 ps z
 have h8:=hG.p8
 obtain ⟨z',e⟩:=R4 (C:=C) (hs:=some (.im (bG ht))) (Gf hG.parts nd) (Rp hN hP z) Tz [] (by show _ < 100000; omega) (by show 0 + _ < 1000; omega)
 rw [List.map_nil,List.nil_append] at e
 refine dG [some (.im (bG ht)),some (.im (.str z)),none,none] rfl rfl ?_ rfl rfl
 simp_arith [kY,Yg,t,Dc,fWh,e]
theorem lD {C:Ce} {zs:List Str} {ps:List (Str×Str)} {ht:dh} (hN:Names zs) (hP:cg zs ps) (hG:eF zs ps ht) (who z:Str) (day:Int):
  dB [.im (bG ht),.im (.str who),.im (.str z),.im (.int day)] C=some (.im (.int (jm ht.bw who (up ps z) day)),C):=by
 have p:=jN (C:=C) hN hP hG z
 obtain ⟨hl,hE⟩:∃l,l=ht.bw.filter (tK who (up ps z) day):=⟨_,rfl⟩
 have t1:cG (.many 6) kZ lg [some (.im (.str who)),some (.im (.list ((up ps z).map .str))),some (.im (.int day))] (ht.bw.map cZ) C=some ((hl.map (·.2.2.1)).map .int,C):=by
  have:=cu (T:=.many 6) (ft:=kZ) (fe:=lg) (fs:=[some (.im (.str who)),some (.im (.list ((up ps z).map .str))),some (.im (.int day))]) (C:=C) cZ (tK who (up ps z) day) (fun r=>.int r.2.2.1) (l:=ht.bw) fun r _=>by
   refine ⟨[.int r.1,.str r.2.1,.int r.2.2.1,.str r.2.2.2.1,.int r.2.2.2.2.1,.int r.2.2.2.2.2],rfl,?_,fun _=>⟨.im (.int r.2.2.1),_,rfl,rfl⟩⟩
   have c:=T3 wX wX (aF 4) (aF 8) (aF 5) (env:=[some (.im (.int r.1)),some (.im (.str r.2.1)),some (.im (.int r.2.2.1)),some (.im (.str r.2.2.2.1)),some (.im (.int r.2.2.2.2.1)),some (.im (.int r.2.2.2.2.2)),some (.im (.str who)),some (.im (.list ((up ps z).map .str))),some (.im (.int day))]) (C:=C) (a:=decide (r.2.2.2.2.1≤day)) (b:=decide (day≤r.2.2.2.2.2)) rfl rfl rfl rfl rfl
   simp_arith [jj,List.cons_append,List.nil_append,c]
   unfold tK
   cases decide (r.2.1=who) <;> cases decide (r.2.2.2.1∈up ps z) <;> rfl
  rw [←hE] at this
  rw [List.map_map]
  exact this
 have hlen:hl.length≤20:=by rw [hE]; exact Nat.le_trans (List.length_filter_le _ _) hG.r20
 have hpos:∀x∈hl.map (·.2.2.1),0≤x:=fun x hx=>by
  obtain ⟨r,hr,rfl⟩:=List.mem_map.mp hx
  rw [hE] at hr
  have:=(hG.bw r (List.mem_filter.mp hr).1).rank
  omega
 have g:(hl.length≤1000000)=True:=eq_true (by omega)
 refine dG [some (.im (bG ht)),some (.im (.str who)),some (.im (.str z)),some (.im (.int day)),none,none] rfl rfl ?_ rfl rfl
 simp_arith [sI,p,t1,g,Im,kO,Kl hpos]
 rw [hE]
 rfl
theorem Wg {C:Ce} {ns:List Int} {k:Int} (k0:0≤k) (k9:k≤9):∃x y:Int,vP [.sc ns,.im (.int k)] C=some (.ow (.list [.int x,.int y,.int 0]),C)∧0≤x∧0≤y∧y≤3000000000:=by
 obtain ⟨c,hc⟩:∃c:Int,(fSeq (fSet 2 (fCst (.int 0))) (jg (fTst (aG Fd (aF 1) (aB (tG 0)))) (fSet 2 (NQ 0 (aF 1))) fNext)) [some (.sc ns),some (.im (.int k)),none] C=some (.nx,[some (.sc ns),some (.im (.int k)),some (.im (.int c))],C):=by
  by_cases h:k < ns.length
  ·obtain ⟨c,hc,_⟩:=FZ (xs:=ns) k0 h
   exact ⟨c,by simp_arith [tG,NQ,h,hc]⟩
  ·exact ⟨0,by simp_arith [tG,h]⟩
 simp only [fSeq,fSet,fCst,List.set_cons_zero,List.set_cons_succ] at hc
 have a0:0≤(if c < 0 then -c else c):=by split <;> omega
 obtain ⟨a,hA⟩:∃a,(if c < 0 then -c else c)=a:=⟨_,rfl⟩
 rw [hA] at a0
 obtain ⟨j,hj,j01⟩:∃j:Int,(if decide (1000000000000000000≤a)=true then (1:Int) else 0)=j∧(j=1∨j=0):=⟨_,rfl,by split; exact .inl rfl; exact .inr rfl⟩
 have pw:lJ (.int 10) (.int 18)=some (.im (.int 1000000000000000000)):=rfl
 have m0:0≤c % 2147483629:=Int.emod_nonneg _ (by omega)
 have m1:c % 2147483629 < 2147483629:=Int.emod_lt_of_pos _ (by omega)
 refine ⟨a * j,c % 2147483629 + 7919 * k + 11,dG [some (.sc ns),some (.im (.int k)),none] rfl rfl ?_ rfl rfl,Int.mul_nonneg a0 (by omega),by omega,by omega⟩
 simp_arith [Gn,↓hc,Cp,hA,pw,Ig,hj,mul_eq (i:=a) (j:=j) (.inr (by omega)),mod_eq (i:=c) (j:=2147483629) (by omega),mul_eq (i:=7919) (j:=k) (.inl (by omega))]
theorem same_int {C:Ce} (n:Nat):cj (n + 1) [.im (.int 0),.im (.int 0)] C=some (.im (.bool true),C):=
 Jc (k:=2) (n:=2) (en:=[some (.im (.int 0)),some (.im (.int 0))]) (e1:=[some (.im (.int 0)),some (.im (.int 0))]) rfl rfl rfl rfl rfl
theorem Ds {C:Ce} (n:Nat):cj (n + 1) [.im (.list []),.im (.list [])] C=some (.im (.bool true),C):=
 Jc (k:=2) (n:=2) (en:=[some (.im (.list [])),some (.im (.list []))]) (e1:=[some (.im (.list [])),some (.im (.list []))]) rfl rfl rfl rfl rfl
theorem O9 {C:Ce} (n:Nat):cj (n + 1) [.im (.tuple []),.im (.tuple [])] C=some (.im (.bool true),C):=
 Jc (k:=2) (n:=2) (en:=[some (.im (.tuple [])),some (.im (.tuple []))]) (e1:=[some (.im (.tuple [])),some (.im (.tuple []))]) rfl rfl rfl rfl rfl
theorem yO {C:Ce} (n:Nat) (ds:List PyData) (hl:ds.length≤1000) (h:∀d∈ds,cj (n + 1) [.im d,.im d] C=some (.im (.bool true),C)):cj (n + 2) [.im (.list ds),.im (.list ds)] C=some (.im (.bool true),C):=by
 have t:cG (.many 2) dN (vV (cj (n + 1))) [] (mU ds ds) C=some (List.replicate ds.length (.bool true),C):=by
  clear hl
  induction ds with
  | nil=>rfl
  | cons x xs ih=>
   have ih:=ih fun d m=>h d (List.mem_cons_of_mem _ m)
   have h1:=h x List.mem_cons_self
   rw [mU]
   unfold cG
   rw [List.length_cons,List.replicate_succ]
   simp_arith [TF,dN,jj,List.append_nil,h1,ih]
 have b:=vH ds.length
 have h1:(ds.length≤1000000)=True:=eq_true (by omega)
 refine Jc (k:=2) (n:=2) (en:=[some (.im (.list ds)),some (.im (.list ds))]) (e1:=[some (.im (.list ds)),some (.im (.list ds))]) rfl rfl ?_ rfl rfl
 simp_arith [Af,rM,Ii,Kc,BJ,isNone,tD,We,RB,t,b.1,b.2,List.length_replicate,h1]
noncomputable def lU (rk:List dJ) (os:List Str) (rank day:Int):List Str:=(gK strLt (dedup (rk.map (·.2.1)))).filter fun who=>decide (rank≤jm rk who os day)
theorem Pa (rk:List dJ) (os:List Str) (rank day:Int):(lU rk os rank day).length≤rk.length:=by
 refine Nat.le_trans (List.length_filter_le _ _) ?_
 rw [(fZ _).length_eq]
 refine Nat.le_trans (iK _) ?_
 rw [List.length_map]
 exact Nat.le_refl _
theorem Pb {rk:List dJ} {os:List Str} {rank day:Int} {who:Str} (h:who∈lU rk os rank day):who∈rk.map (·.2.1):=by
 have:=(List.mem_filter.mp h).1
 rw [(fZ _).mem_iff,JS] at this
 exact this
theorem wG {rk:List dJ} {who:Str} {os:List Str} {day:Int} (h:∀r∈rk,tK who os day r=false):jm rk who os day=0:=by
 unfold jm
 rw [List.filter_eq_nil_iff.mpr fun r hr=>by rw [h r hr]; decide]
 rfl
theorem yP {rk:List dJ} {os:List Str} {rank day:Int} (h1:1≤rank) (h:∀who,jm rk who os day=0):lU rk os rank day=[]:=by
 refine List.filter_eq_nil_iff.mpr fun who _=>?_
 rw [h who]
 simp only [decide_eq_true_eq]
 omega
section
variable {C:Ce} {zs:List Str} {ps:List (Str×Str)} {ht:dh} (hN:Names zs) (hP:cg zs ps) (hG:eF zs ps ht)
include hN hP hG
theorem lF (rank:Int) (z:Str) (day:Int):cB [.im (bG ht),.im (.int rank),.im (.str z),.im (.int day)] C=some (.ow (.list ((lU ht.bw (up ps z) rank day).map .str)),C):=by
 have Wx:=hG.r20
 have t1:cG .one dN iu [] (ht.bw.map cZ) C=some ((ht.bw.map (·.2.1)).map .str,C):=by
  have:=cu (T:=.one) (ft:=dN) (fe:=iu) (fs:=[]) (C:=C) cZ (fun _=>true) (fun r=>.str r.2.1) (l:=ht.bw) fun r _=>⟨[cZ r],rfl,rfl,fun _=>⟨.im (.str r.2.1),_,by simp_arith [jj,List.append_nil]; rfl,rfl⟩⟩
  rw [List.filter_eq_self.mpr fun _ _=>rfl] at this
  rw [List.map_map]
  exact this
 have t2:gM ((ht.bw.map (·.2.1)).map .str)=some ((gK strLt (dedup (ht.bw.map (·.2.1)))).map .str):=by
  unfold gM
  rw [if_pos (by rw [List.length_map,List.length_map]; omega),pG]
 have t3:cG .one lQ lR [some (.im (bG ht)),some (.im (.str z)),some (.im (.int day)),some (.im (.int rank))] ((gK strLt (dedup (ht.bw.map (·.2.1)))).map .str) C=some ((lU ht.bw (up ps z) rank day).map .str,C):=by
  refine cu PyData.str (fun who=>decide (rank≤jm ht.bw who (up ps z) day)) PyData.str fun who _=>⟨[.str who],rfl,?_,fun _=>⟨.im (.str who),_,rfl,rfl⟩⟩
  simp_arith [jj,List.cons_append,List.nil_append,lD hN hP hG who z day]
 have hl:=Pa ht.bw (up ps z) rank day
 have h2:((lU ht.bw (up ps z) rank day).length≤1000000)=True:=eq_true (by omega)
 refine dG [some (.im (bG ht)),some (.im (.int rank)),some (.im (.str z)),some (.im (.int day)),none] rfl rfl ?_ rfl rfl
 simp_arith [lq,Yl,t1,t2,t3,h2]
theorem wH {z:Str} {Ze:Int} (hz:up ps z=[]):gk [.im (bG ht),.im (.str z),.im (.int Ze)] C=some (.im (.tuple []),C):=by
 have hp:=jN (C:=C) hN hP hG z
 rw [hz,List.map_nil] at hp
 have h1:gU [.im (bG ht),.im (.str z)] C=some (.ow (.list []),C):=by
  refine dG [some (.im (bG ht)),some (.im (.str z)),none,none] rfl rfl ?_ rfl rfl
  simp_arith [mX,fK,hp,lM]
 refine dG [some (.im (bG ht)),some (.im (.str z)),some (.im (.int Ze)),none,none,none] rfl rfl ?_ rfl rfl
 simp_arith [pJ,h1,cG,List.isEmpty_nil,fW]
theorem wI {z:Str} {day:Int} (people:List Str) (hl:people.length≤100) (hz:up ps z=[]):gn [.im (bG ht),.im (.list (people.map .str)),.im (.str z),.im (.int day)] C=some (.im (.bool true),C):=by
 have hp:=jN (C:=C) hN hP hG z
 have m0:∀who,jm ht.bw who [] day=0:=fun who=>wG fun r _=>by
  unfold tK
  simp
 have h1:=lF (C:=C) hN hP hG 1 z day
 have h9:=lF (C:=C) hN hP hG 9 z day
 rw [hz] at hp h1 h9
 rw [yP (by decide) m0,List.map_nil] at h1 h9
 rw [List.map_nil] at hp
 have s0:=wH (C:=C) (Ze:=0) hN hP hG hz
 have s9:=wH (C:=C) (Ze:=1000000000) hN hP hG hz
 have pw:lJ (.int 10) (.int 9)=some (.im (.int 1000000000)):=by rfl
 have sm:cj 3 [.im (.list [.list [],.list [],.list [],.tuple [],.tuple []]),.im (.list [.list [],.list [],.list [],.tuple [],.tuple []])] C=some (.im (.bool true),C):=yO 1 _ (by decide) fun d hd=>by
  simp only [List.mem_cons,List.not_mem_nil,or_false] at hd
  rcases hd with rfl | rfl | rfl | rfl | rfl
  iterate 3 exact Ds 1
  iterate 2 exact O9 1
 have t:cG .one dN jL [some (.im (bG ht)),some (.im (.str z)),some (.im (.int day))] (people.map .str) C=some (List.replicate people.length (.bool true),C):=by
  have:=cu (T:=.one) (ft:=dN) (fe:=jL) (fs:=[some (.im (bG ht)),some (.im (.str z)),some (.im (.int day))]) (C:=C) PyData.str (fun _=>true) (fun _=>.bool true) (l:=people) fun p _=>⟨[.str p],rfl,rfl,fun _=>⟨.im (.bool true),_,by
   have r:=lD (C:=C) hN hP hG p z day
   rw [hz,m0] at r
   simp_arith [jj,List.cons_append,List.nil_append,r,same_int 2]; rfl,rfl⟩⟩
  rw [List.filter_eq_self.mpr fun _ _=>rfl,List.map_const'] at this
  exact this
 have b:=vH people.length
 have q:(people.length≤1000000)=True:=eq_true (by omega)
 have ad:bf (.list [.list [],.list [],.list []]) (.list [.tuple [],.tuple []])=some (.ow (.list [.list [],.list [],.list [],.tuple [],.tuple []])):=rfl
 refine dG [some (.im (bG ht)),some (.im (.list (people.map .str))),some (.im (.str z)),some (.im (.int day)),none] rfl rfl ?_ rfl rfl
 simp_arith [pL,hp,h1,h9,s0,s9,pw,ad,sm,t,b.1,b.2,q,List.length_replicate]
end
noncomputable abbrev qQ (ns:List Int) (k:Int) (b:Nat) (v3:Option Vl) (ht:dh) (kept:Str) (v6:Option Vl) (pe:List Str) (v9 v10 v11 jO j0 fM fO jc:Option Vl):En:=
 [some (.sc ns),some (.im (.int k)),some (.ce b),v3,some (.im (bG ht)),some (.im (.str kept)),v6,some (.ow (.list ((ht.bw.map (·.2.1)).map .str))),some (.ow (.list (pe.map .str))),v9,v10,v11,jO,j0,fM,fO,jc]
theorem wJ (o:Str) (zs:List Str):iI (.str o) (.list (zs.map .str))=some (.im (.bool (decide (o∉zs)))):=by
 have:inB (.str o) (.list (zs.map .str))=some (inD (.str o) (zs.map .str)):=if_pos (by rw [nR]; rfl)
 unfold iI
 rw [this,vq,Option.map_some,decide_not]
theorem Yt (pe:List Str) (n:Int):∃q:List Str,Cy (pe.map PyData.str) none (some n)=q.map .str∧q.length≤pe.length:=by
 refine ⟨Cy pe none (some n),?_,?_⟩
 ·unfold Cy
  rw [List.length_map,List.map_take,List.map_drop]
 ·unfold Cy
  rw [List.length_take,List.length_drop]
  omega
theorem Wh (zs:List Str):eF zs [] ⟨[],[],[],[]⟩:=⟨List.Perm.refl _,by decide,by decide,by decide,by decide,(fun _ m=>nomatch m),List.Pairwise.nil,(fun _ m=>nomatch m),List.Pairwise.nil,(fun _ m=>nomatch m),List.nodup_nil⟩
section
variable {C:Ce} {ns:List Int} {k:Int} {b:Nat} {zs:List Str} {ps:List (Str×Str)} {ht:dh} {kept:Str} {pe:List Str} {v3 v6 v9 v10 v11 jO j0 fM fO jc:Option Vl} {day:Int} (hN:Names zs) (hP:cg zs ps) (hG:eF zs ps ht) (hpe:pe.length≤100)
include hN hP hG
theorem R7 {z p:Str} (hp:p∉ht.bw.map (·.2.1)):
  qJ (qQ ns k b v3 ht kept v6 pe (some (.im (.int day))) v10 (some (.im (.str z))) (some (.ow (.list ((lU ht.bw (up ps z) 1 day).map .str)))) (some (.im (.str p))) fM fO jc) C
   =some (.nx,qQ ns k b v3 ht kept v6 pe (some (.im (.int day))) v10 (some (.im (.str z))) (some (.ow (.list ((lU ht.bw (up ps z) 1 day).map .str)))) (some (.im (.str p))) fM fO jc,C):=by
 have r:=lD (C:=C) hN hP hG p z day
 rw [wG fun q hq=>by
  unfold tK
  rw [decide_eq_false (p:=q.2.1=p) fun e=>hp (List.mem_map.mpr ⟨q,hq,e⟩)]
  rfl] at r
 have h2:decide (p∈lU ht.bw (up ps z) 1 day)=false:=decide_eq_false fun m=>hp (Pb m)
 simp_arith [qJ,qQ,r,same_int 2,h2]
include hpe
theorem R8 {z:Str}:∃w12 w13,qK (qQ ns k b v3 ht kept v6 pe (some (.im (.int day))) v10 (some (.im (.str z))) jO j0 fM fO jc) C
   =some (.nx,qQ ns k b v3 ht kept v6 pe (some (.im (.int day))) v10 (some (.im (.str z))) w12 w13 fM fO jc,C):=by
 refine hide fun GG gg=>?_
 have h:=lF (C:=C) hN hP hG 1 z day
 obtain ⟨l,lE⟩:∃l,l=pe.filter fun o=>decide (o∉ht.bw.map (·.2.1)):=⟨_,rfl⟩
 have t:cG .one vZ wg [some (.im (.list ((ht.bw.map (·.2.1)).map .str)))] (pe.map .str) C=some (l.map .str,C):=by
  rw [lE]
  refine cu (T:=.one) (ft:=vZ) (fe:=wg) (fs:=[some (.im (.list ((ht.bw.map (·.2.1)).map .str)))]) (C:=C) (l:=pe) PyData.str (fun o=>decide (o∉ht.bw.map (·.2.1))) PyData.str fun o _=>⟨[.str o],rfl,?_,fun _=>⟨.im (.str o),_,rfl,rfl⟩⟩
  simp_arith [jj,List.cons_append,List.nil_append,wJ]
 have ll:l.length≤pe.length:=by rw [lE]; exact List.length_filter_le _ _
 have q:(l.length≤1000000)=True:=eq_true (by omega)
 obtain ⟨env',C',e,w13,he,hC⟩:=b7 (g:=gNm 13) (body:=qJ) (its:=l.map .str) (env:=qQ ns k b v3 ht kept v6 pe (some (.im (.int day))) v10 (some (.im (.str z))) (some (.ow (.list ((lU ht.bw (up ps z) 1 day).map .str)))) j0 fM fO jc) (C:=C)
  (fun i env C1=>∃w13,env=qQ ns k b v3 ht kept v6 pe (some (.im (.int day))) v10 (some (.im (.str z))) (some (.ow (.list ((lU ht.bw (up ps z) 1 day).map .str)))) w13 fM fO jc∧C1=C) ⟨j0,rfl,rfl⟩ (fun i d env C1 hd hI=>by
   obtain ⟨w13,rfl,rfl⟩:=hI
   obtain ⟨p,hp,rfl⟩:=rW hd
   have hp:=List.mem_of_getElem? hp
   rw [lE] at hp
   exact ⟨_,.nx,_,C1,rfl,R7 (ns:=ns) (k:=k) (b:=b) (kept:=kept) (pe:=pe) (v3:=v3) (v6:=v6) (v10:=v10) (fM:=fM) (fO:=fO) (jc:=jc) hN hP hG (of_decide_eq_true (List.mem_filter.mp hp).2),.inl rfl,_,rfl,rfl⟩)
 subst he
 subst hC
 refine gg ⟨some (.ow (.list ((lU ht.bw (up ps z) 1 day).map .str))),w13,?_⟩
 simp only [qQ] at e ⊢
 simp_arith [qK,h,t,q,fK,e]
theorem R9 {z:Str} (hz:cQ ps z=none):qL (qQ ns k b v3 ht kept v6 pe (some (.im (.int day))) (some (.im (.str z))) v11 jO j0 fM fO jc) C
   =some (.nx,qQ ns k b v3 ht kept v6 pe (some (.im (.int day))) (some (.im (.str z))) v11 jO j0 fM fO jc,C):=by
 obtain ⟨q1,c1,l1⟩:=Yt pe 4
 obtain ⟨q2,c2,l2⟩:=Yt pe 2
 have n1:=wI (C:=C) (z:=z) (day:=day) hN hP hG q1 (by omega) (IV hz)
 have n2:=wI (C:=C) (z:=z) (day:=day) (ps:=[]) hN (fun i x e=>by simp at e) (Wh zs) q2 (by omega) (IV rfl)
 have h0:eN [] C=some (.im (bG ⟨[],[],[],[]⟩),C):=dG [] rfl rfl rfl rfl rfl
 simp_arith [qL,qQ,PJ,Rh,Pz,Ye,c1,c2,n1,n2,h0]
theorem Sd (h6:v6=some (.ow (.list ((ht.ps.map (·.1)).map .str)))∨v6=some (.im (.list ((ht.ps.map (·.1)).map .str)))):∃w10 w11 w12 w13,nC (qQ ns k b v3 ht kept v6 pe (some (.im (.int day))) v10 v11 jO j0 fM fO jc) C
   =some (.nx,qQ ns k b v3 ht kept (some (.im (.list ((ht.ps.map (·.1)).map .str)))) pe (some (.im (.int day))) w10 w11 w12 w13 fM fO jc,C):=by
 refine hide fun GG gg=>?_
 obtain ⟨six,sx⟩:∃six:List Str,six=(Str.ofString "abcdef").cps.toList.map fun c=>(⟨#[c]⟩:Str):=⟨_,rfl⟩
 have s1:uq [.str (Str.ofString "abcdef")]=some (.ow (.list (six.map .str))):=by
  have hk:(Str.ofString "abcdef").length≤1000:=by decide +kernel
  rw [sx,List.map_map]
  exact if_pos (e:=none) hk
 have s2:six.length≤10:=by rw [sx]; decide +kernel
 have a1:bf (.list (pe.map .str)) (.list (six.map .str))=some (.ow (.list ((pe++six).map .str))):=by
  rw [List.map_append]
  exact add_l (by rw [List.length_map,List.length_map]; omega)
 obtain ⟨l,lE⟩:∃l,l=(pe++six).filter fun o=>decide (o∉ht.ps.map (·.1)):=⟨_,rfl⟩
 have ll:l.length≤200:=by
  rw [lE]
  refine Nat.le_trans (List.length_filter_le _ _) ?_
  rw [List.length_append]
  omega
 have t:cG .one wj wu [some (.im (.list ((ht.ps.map (·.1)).map .str)))] ((pe++six).map .str) C=some (l.map .str,C):=by
  rw [lE]
  refine cu (T:=.one) (ft:=wj) (fe:=wu) (fs:=[some (.im (.list ((ht.ps.map (·.1)).map .str)))]) (C:=C) (l:=pe++six) PyData.str (fun o=>decide (o∉ht.ps.map (·.1))) PyData.str fun o _=>⟨[.str o],rfl,?_,fun _=>⟨.im (.str o),_,rfl,rfl⟩⟩
  simp_arith [jj,List.cons_append,List.nil_append,wJ]
 have q:(l.length≤1000000)=True:=eq_true (by omega)
 have a2:rZ (.list (l.map .str)) (.int 2)=some (.ow (.list ((l++l).map .str))):=by
  have:(List.replicate 2 (l.map PyData.str)).flatten=(l++l).map .str:=by simp [List.replicate]
  rw [←this]
  exact if_pos ⟨by decide,by decide,by rw [List.length_map]; omega⟩
 obtain ⟨env',C',e,w10,he,hC⟩:=b7 (g:=gNm 10) (body:=qL) (its:=(l++l).map .str) (env:=qQ ns k b v3 ht kept v6 pe (some (.im (.int day))) v10 v11 jO j0 fM fO jc) (C:=C)
  (fun i env C1=>∃w10,env=qQ ns k b v3 ht kept v6 pe (some (.im (.int day))) w10 v11 jO j0 fM fO jc∧C1=C) ⟨v10,rfl,rfl⟩ (fun i d env C1 hd hI=>by
   obtain ⟨w10,rfl,rfl⟩:=hI
   obtain ⟨z,hz,rfl⟩:=rW hd
   have hz:=List.mem_of_getElem? hz
   have hz:z∈l:=(List.mem_append.mp hz).elim id id
   rw [lE] at hz
   have hz:=of_decide_eq_true (List.mem_filter.mp hz).2
   have hl:cQ ps z=none:=by
    cases e:cQ ps z with
    | none=>rfl
    | some w=>
     have:=(di (gO hN hP)).mp e
     exact absurd (List.mem_map.mpr ⟨_,hG.parts.mem_iff.mpr this,rfl⟩) hz
   exact ⟨_,.nx,_,C1,rfl,R9 (ns:=ns) (k:=k) (b:=b) (kept:=kept) (pe:=pe) (v3:=v3) (v6:=v6) (v11:=v11) (jO:=jO) (j0:=j0) (fM:=fM) (fO:=fO) (jc:=jc) hN hP hG hpe hl,.inl rfl,_,rfl,rfl⟩)
 subst he
 subst hC
 obtain ⟨VV,C2,e2,w11,w12,w13,he,hC⟩:=b7 (g:=gNm 11) (body:=qK) (its:=(ht.ps.map (·.1)).map .str) (env:=qQ ns k b v3 ht kept (some (.im (.list ((ht.ps.map (·.1)).map .str)))) pe (some (.im (.int day))) w10 v11 jO j0 fM fO jc) (C:=C')
  (fun i env C1=>∃w11 w12 w13,env=qQ ns k b v3 ht kept (some (.im (.list ((ht.ps.map (·.1)).map .str)))) pe (some (.im (.int day))) w10 w11 w12 w13 fM fO jc∧C1=C') ⟨v11,jO,j0,rfl,rfl⟩ (fun i d env C1 hd hI=>by
   obtain ⟨w11,w12,w13,rfl,rfl⟩:=hI
   obtain ⟨z,hz,rfl⟩:=rW hd
   obtain ⟨u12,u13,e⟩:=R8 (C:=C1) (ns:=ns) (k:=k) (b:=b) (kept:=kept) (pe:=pe) (v3:=v3) (v6:=some (.im (.list ((ht.ps.map (·.1)).map .str)))) (v10:=w10) (jO:=w12) (j0:=w13) (fM:=fM) (fO:=fO) (jc:=jc) (day:=day) (z:=z) hN hP hG hpe
   exact ⟨_,.nx,_,C1,rfl,e,.inl rfl,_,u12,u13,rfl,rfl⟩)
 subst he
 subst hC
 refine gg ⟨w10,w11,w12,w13,?_⟩
 clear gg
 simp only [qQ] at e e2 ⊢
 rcases h6 with rfl | rfl <;> simp_arith [nC,s1,a1,t,q,a2,fK,e,e2]
end
theorem Ai {α:Type} {D:α→PyData} (h:∀a,wW (D a)=true):∀l:List α,fW (l.map D)=true
 | []=>rfl
 | a::l=>by
  show (wW (D a)&&fW (l.map D))=true
  rw [h a,Ai h l]
  rfl
theorem Sg (h:dh) (e f:En):rst (.im (bG h)) e f=e:=by
 refine if_pos ?_
 show (fW (h.ps.map cI)&&(fW (h.bw.map cZ)&&(fW (h.leaves.map kJ)&&(fW (h.rules.map jb)&&true))))=true
 rw [Ai (fun _=>rfl),Ai (fun _=>rfl),Ai (fun _=>rfl),rU]
 rfl
theorem fold_min:∀(l:List Int) (a:Int),l.foldl min a≤a∧∀x∈l,l.foldl min a≤x
 | [],a=>⟨Int.le_refl a,fun _ m=>nomatch m⟩
 | y::l,a=>by
  obtain ⟨h1,h2⟩:=fold_min l (min a y)
  refine ⟨Int.le_trans h1 (Int.min_le_left _ _),fun x hx=>?_⟩
  rcases List.mem_cons.mp hx with rfl | hx
  ·exact Int.le_trans h1 (Int.min_le_right _ _)
  ·exact h2 x hx
theorem Wi (l:List Int) (a:Int):∃m,sr [.list (l.map .int++[.int a])]=some (.im (.int m))∧∀x∈l,m≤x:=by
 have e:l.map PyData.int++[.int a]=(l++[a]).map .int:=by rw [List.map_append]; rfl
 rw [e]
 unfold sr
 simp only [kO]
 cases l with
 | nil=>exact ⟨_,rfl,fun _ m=>nomatch m⟩
 | cons y l=>
  refine ⟨_,rfl,fun x hx=>?_⟩
  have h:=fold_min (l++[a]) y
  rcases List.mem_cons.mp hx with rfl | hx
  ·exact h.1
  ·exact h.2 x (List.mem_append_left _ hx)
theorem Wj (l:List Int) (a:Int):∃m,rP [.list (l.map .int++[.int a])]=some (.im (.int m))∧∀x∈l,x≤m:=by
 have e:l.map PyData.int++[.int a]=(l++[a]).map .int:=by rw [List.map_append]; rfl
 rw [e]
 unfold rP
 simp only [kO]
 cases l with
 | nil=>exact ⟨_,rfl,fun _ m=>nomatch m⟩
 | cons y l=>
  refine ⟨_,rfl,fun x hx=>?_⟩
  have h:=(Aa (l:=l++[a]) (a:=y)).mp (Int.le_refl _)
  rcases List.mem_cons.mp hx with rfl | hx
  ·exact h.1
  ·exact h.2 x (List.mem_append_left _ hx)
section
variable {C:Ce} {ns:List Int} {k:Int} {b:Nat} {zs:List Str} {ps:List (Str×Str)} {ht:dh} {kept:Str} {pe:List Str} {v3 v6 v9 v10 v11 jO j0 fM fO jc:Option Vl} {day:Int} (hN:Names zs) (hP:cg zs ps) (hG:eF zs ps ht) (hpe:pe.length≤100) (far:∀r∈ht.bw,¬(r.2.2.2.2.1≤day∧day≤r.2.2.2.2.2))
include hN hP hG hpe far
theorem Sh {z:Str}:∃w16,qI (qQ ns k b v3 ht kept v6 pe (some (.im (.int day))) v10 (some (.im (.str z))) jO j0 fM fO jc) C
   =some (.nx,qQ ns k b v3 ht kept v6 pe (some (.im (.int day))) v10 (some (.im (.str z))) jO j0 fM fO w16,C):=by
 have m0:∀who,jm ht.bw who (up ps z) day=0:=fun who=>wG fun r hr=>by
  have:=far r hr
  unfold tK
  by_cases h1:r.2.2.2.2.1≤day
  ·rw [decide_eq_false (p:=day≤r.2.2.2.2.2) fun h2=>this ⟨h1,h2⟩,Bool.and_false,Bool.and_false,Bool.and_false]
  ·rw [decide_eq_false h1,Bool.false_and,Bool.and_false,Bool.and_false]
 have h:=lF (C:=C) hN hP hG 1 z day
 rw [yP (by decide) m0,List.map_nil] at h
 have t:cG .one dN vY [some (.im (bG ht)),some (.im (.str z)),some (.im (.int day))] (pe.map .str) C=some (List.replicate pe.length (.int 0),C):=by
  have:=cu (T:=.one) (ft:=dN) (fe:=vY) (fs:=[some (.im (bG ht)),some (.im (.str z)),some (.im (.int day))]) (C:=C) PyData.str (fun _=>true) (fun _=>.int 0) (l:=pe) fun p _=>⟨[.str p],rfl,rfl,fun _=>⟨.im (.int 0),_,by
   have r:=lD (C:=C) hN hP hG p z day
   rw [m0] at r
   simp_arith [jj,List.cons_append,List.nil_append,r]; rfl,rfl⟩⟩
  rw [List.filter_eq_self.mpr fun _ _=>rfl,List.map_const'] at this
  exact this
 have q:(pe.length≤1000000)=True:=eq_true (by omega)
 have nl:fW (List.replicate pe.length (.int 0))=true:=by
  have:=noLs_ints (List.replicate pe.length 0)
  rw [List.map_replicate] at this
  exact this
 have a1:bf (.list [.list []]) (.list (List.replicate pe.length (.int 0)))=some (.ow (.list (.list []::List.replicate pe.length (.int 0)))):=add_l (xs:=[.list []]) (by rw [List.length_replicate]; show 1 + _≤_; omega)
 have a2:rZ (.list [.int 0]) (.int pe.length)=some (.ow (.list (List.replicate pe.length (.int 0)))):=by
  have:(List.replicate (pe.length:Int).toNat [PyData.int 0]).flatten=List.replicate pe.length (.int 0):=by
   rw [Int.toNat_natCast,List.flatten_replicate_singleton]
  rw [←this]
  exact if_pos (e:=none) ⟨by omega,by omega,by decide⟩
 have sm:cj 3 [.im (.list (.list []::List.replicate pe.length (.int 0))),.im (.list (.list []::List.replicate pe.length (.int 0)))] C=some (.im (.bool true),C):=yO 1 _ (by rw [List.length_cons,List.length_replicate]; omega) fun d hd=>by
  rcases List.mem_cons.mp hd with rfl | hd
  ·exact Ds 1
  ·rw [(List.mem_replicate.mp hd).2]
   exact same_int 1
 simp_arith [qI,qQ,h,t,q,nl,a1,a2,sm,List.length_replicate]
 exact ⟨_,rfl⟩
theorem Sq (h6:v6=some (.ow (.list ((ht.ps.map (·.1)).map .str)))∨v6=some (.im (.list ((ht.ps.map (·.1)).map .str)))):∃w11 w16,nA (qQ ns k b v3 ht kept v6 pe (some (.im (.int day))) v10 v11 jO j0 fM fO jc) C
   =some (.nx,qQ ns k b v3 ht kept (some (.im (.list ((ht.ps.map (·.1)).map .str)))) pe (some (.im (.int day))) v10 w11 jO j0 fM fO w16,C):=by
 obtain ⟨VV,C2,e2,w11,w16,he,hC⟩:=b7 (g:=gNm 11) (body:=qI) (its:=(ht.ps.map (·.1)).map .str) (env:=qQ ns k b v3 ht kept (some (.im (.list ((ht.ps.map (·.1)).map .str)))) pe (some (.im (.int day))) v10 v11 jO j0 fM fO jc) (C:=C)
  (fun i env C1=>∃w11 w16,env=qQ ns k b v3 ht kept (some (.im (.list ((ht.ps.map (·.1)).map .str)))) pe (some (.im (.int day))) v10 w11 jO j0 fM fO w16∧C1=C) ⟨v11,jc,rfl,rfl⟩ (fun i d env C1 hd hI=>by
   obtain ⟨w11,w16,rfl,rfl⟩:=hI
   obtain ⟨z,hz,rfl⟩:=rW hd
   obtain ⟨u16,e⟩:=Sh (C:=C1) (ns:=ns) (k:=k) (b:=b) (kept:=kept) (pe:=pe) (v3:=v3) (v6:=some (.im (.list ((ht.ps.map (·.1)).map .str)))) (v10:=v10) (jO:=jO) (j0:=j0) (fM:=fM) (fO:=fO) (jc:=w16) (day:=day) (z:=z) hN hP hG hpe far
   exact ⟨_,.nx,_,C1,rfl,e,.inl rfl,_,u16,rfl,rfl⟩)
 subst he
 subst hC
 refine ⟨w11,w16,?_⟩
 simp only [qQ] at e2 ⊢
 rcases h6 with rfl | rfl <;> simp_arith [nA,fK,e2]
end
inductive LA (ns:List Int) (k:Int) (b:Nat) (v3:Option Vl) (ht:dh) (kept:Str) (pe:List Str) (fM fO:Option Vl):En→Prop
 | mk (w6 w9 w10 w11 w12 w13 w16:Option Vl) (h6:w6=some (.ow (.list ((ht.ps.map (·.1)).map .str)))∨w6=some (.im (.list ((ht.ps.map (·.1)).map .str)))):LA ns k b v3 ht kept pe fM fO (qQ ns k b v3 ht kept w6 pe w9 w10 w11 w12 w13 fM fO w16)
section
variable {C:Ce} {ns:List Int} {k:Int} {b:Nat} {zs:List Str} {ps:List (Str×Str)} {ht:dh} {kept:Str} {pe:List Str} {v3 fM fO:Option Vl} {env:En} (hN:Names zs) (hP:cg zs ps) (hG:eF zs ps ht) (hpe:pe.length≤100) (hE:LA ns k b v3 ht kept pe fM fO env)
include hN hP hG hpe hE
theorem Yu (ds:List Int):∃env',lM (gNm 9) nC (ds.map .int) env C=some (.nx,env',C)∧LA ns k b v3 ht kept pe fM fO env':=by
 obtain ⟨env',C',e,hE',rfl⟩:=b7 (g:=gNm 9) (body:=nC) (its:=ds.map .int) (env:=env) (C:=C) (fun i env C1=>LA ns k b v3 ht kept pe fM fO env∧C1=C) ⟨hE,rfl⟩ (fun i d env C1 hd hI=>by
   obtain ⟨hE,rfl⟩:=hI
   obtain ⟨day,_,rfl⟩:=rW hd
   cases hE with
   | mk w6 w9 w10 w11 w12 w13 w16 h6=>
   obtain ⟨u10,u11,u12,u13,e⟩:=Sd (C:=C1) (ns:=ns) (k:=k) (b:=b) (kept:=kept) (pe:=pe) (v3:=v3) (v6:=w6) (v10:=w10) (v11:=w11) (jO:=w12) (j0:=w13) (fM:=fM) (fO:=fO) (jc:=w16) (day:=day) hN hP hG hpe h6
   exact ⟨_,.nx,_,C1,rfl,e,.inl rfl,.mk _ _ _ _ _ _ _ (.inr rfl),rfl⟩)
 exact ⟨env',e,hE'⟩
theorem Yv (ds:List Int) (far:∀day∈ds,∀r∈ht.bw,¬(r.2.2.2.2.1≤day∧day≤r.2.2.2.2.2)):∃env',lM (gNm 9) nA (ds.map .int) env C=some (.nx,env',C)∧LA ns k b v3 ht kept pe fM fO env':=by
 obtain ⟨env',C',e,hE',rfl⟩:=b7 (g:=gNm 9) (body:=nA) (its:=ds.map .int) (env:=env) (C:=C) (fun i env C1=>LA ns k b v3 ht kept pe fM fO env∧C1=C) ⟨hE,rfl⟩ (fun i d env C1 hd hI=>by
   obtain ⟨hE,rfl⟩:=hI
   obtain ⟨day,Kz,rfl⟩:=rW hd
   cases hE with
   | mk w6 w9 w10 w11 w12 w13 w16 h6=>
   obtain ⟨u11,u16,e⟩:=Sq (C:=C1) (ns:=ns) (k:=k) (b:=b) (kept:=kept) (pe:=pe) (v3:=v3) (v6:=w6) (v10:=w10) (v11:=w11) (jO:=w12) (j0:=w13) (fM:=fM) (fO:=fO) (jc:=w16) (day:=day) hN hP hG hpe (far day (List.mem_of_getElem? Kz)) h6
   exact ⟨_,.nx,_,C1,rfl,e,.inl rfl,.mk _ _ _ _ _ _ _ (.inr rfl),rfl⟩)
 exact ⟨env',e,hE'⟩
end
theorem Gw {α:Type} {C:Ce} {fe:FE} {l:List dJ} (g:dJ→α) (D:α→PyData) (h:∀r:dJ,∃e,fe [some (.im (cZ r))] C=some (.im (D (g r)),e,C)):cG .one dN fe [] (l.map cZ) C=some ((l.map g).map D,C):=by
 have:=cu (T:=.one) (ft:=dN) (fe:=fe) (fs:=[]) (C:=C) cZ (fun _=>true) (fun r=>D (g r)) (l:=l) fun r _=>by
  obtain ⟨e,h⟩:=h r
  exact ⟨[cZ r],rfl,rfl,fun _=>⟨.im (D (g r)),e,h,rfl⟩⟩
 rw [List.filter_eq_self.mpr fun _ _=>rfl] at this
 rw [List.map_map]
 exact this
theorem KC (hs zs own:List Str) (qq:Str) (hl:hs.length≤20) (h9:zs.length=9) (ol:own.length≤8):∃(l1 l2 l3 pe:List Str),bf (.list (hs.map .str)) (.list (zs.map .str))=some (.ow (.list (l1.map .str)))∧bf (.list (l1.map .str)) (.list (own.map .str))=some (.ow (.list (l2.map .str)))∧bf (.list (l2.map .str)) (.list [.str qq])=some (.ow (.list (l3.map .str)))∧gM (l3.map .str)=some (pe.map .str)∧pe.length≤100:=by
 refine ⟨hs++zs,hs++zs++own,hs++zs++own++[qq],gK strLt (dedup (hs++zs++own++[qq])),?_,?_,?_,?_,?_⟩
 ·rw [List.map_append]; exact add_l (by rw [List.length_map,List.length_map]; omega)
 ·rw [List.map_append (l₁:=hs++zs)]; exact add_l (by rw [List.length_map,List.length_map,List.length_append]; omega)
 ·rw [List.map_append (l₁:=hs++zs++own)]; exact add_l (by rw [List.length_map,List.length_append,List.length_append]; show _ + 1≤_; omega)
 ·unfold gM
  rw [if_pos (by rw [List.length_map,List.length_append,List.length_append,List.length_append]; show _ + 1 < _; omega),pG]
 ·rw [(fZ _).length_eq]
  refine Nat.le_trans (iK _) ?_
  rw [List.length_append,List.length_append,List.length_append]
  show _ + 1≤_
  omega
theorem Wk {C:Ce} (rk:List dJ) (Wx:rk.length≤20):∃(lo hi:Int) (ds:List Int) (t1 t2:List PyData),bf (.list ((rk.map (·.2.2.2.2.1)).map .int)) (.list [.int 99999])=some (.ow (.list t1))∧sr [.list t1]=some (.im (.int lo))∧bf (.list ((rk.map (·.2.2.2.2.2)).map .int)) (.list [.int 0])=some (.ow (.list t2))∧rP [.list t2]=some (.im (.int hi))∧
  cG .one vW vX [] [.int (lo - 1),.int (hi + 1)] C=some (ds.map .int,C)∧ds.length≤2∧∀day∈ds,∀r∈rk,¬(r.2.2.2.2.1≤day∧day≤r.2.2.2.2.2):=by
 obtain ⟨lo,m1,m2⟩:=Wi (rk.map (·.2.2.2.2.1)) 99999
 obtain ⟨hi,m3,m4⟩:=Wj (rk.map (·.2.2.2.2.2)) 0
 have b1:∀(l:List Int) (a:Int),l.length≤20→bf (.list (l.map .int)) (.list [.int a])=some (.ow (.list (l.map .int++[.int a]))):=fun l a h=>add_l (by rw [List.length_map]; show _ + 1≤_; omega)
 refine ⟨lo,hi,[lo - 1,hi + 1].filter fun d=>decide (0≤d)&&decide (d < 100000),_,_,b1 _ _ (by rw [List.length_map]; exact Wx),m1,b1 _ _ (by rw [List.length_map]; exact Wx),m3,?_,List.length_filter_le _ _,fun day Kz r hr=>?_⟩
 ·refine cu (T:=.one) (ft:=vW) (fe:=vX) (fs:=[]) (C:=C) (l:=[lo - 1,hi + 1]) PyData.int (fun d=>decide (0≤d)&&decide (d < 100000)) PyData.int fun d _=>⟨[.int d],rfl,?_,fun _=>⟨.im (.int d),_,rfl,rfl⟩⟩
  have c:=T3 wX Fd (aB (fCst (.int 0))) (aF 0) (aB (fCst (.int 100000))) (env:=[some (.im (.int d))]) (C:=C) (a:=decide (0≤d)) (b:=decide (d < 100000)) rfl rfl rfl rfl rfl
  simp_arith [jj,List.append_nil,c]
 ·have Kz:=(List.mem_filter.mp Kz).1
  simp only [List.mem_cons,List.not_mem_nil,or_false] at Kz
  have y1:=m2 _ (List.mem_map.mpr ⟨r,hr,rfl⟩)
  have y2:=m4 _ (List.mem_map.mpr ⟨r,hr,rfl⟩)
  rcases Kz with rfl | rfl <;> omega
inductive RE (ns:List Int):En→Prop
 | mk (v1 v2 v3 v4 v5 v6 v7 v8 v9 v10 v11 jO j0 fM fO jc:Option Vl):RE ns [some (.sc ns),v1,v2,v3,v4,v5,v6,v7,v8,v9,v10,v11,jO,j0,fM,fO,jc]
theorem Pg {C:Ce} {ns:List Int} {k:Int} {env e0:En} (hE:RE ns env) (k0:0≤k) (k9:k≤9) (hg:gNm 1 (.int k) env=some e0):∃(C':Ce) (env':En),qM e0 C=some (.nx,env',C')∧RE ns env':=by
 cases hE with
 | mk v1 v2 v3 v4 v5 v6 v7 v8 v9 v10 v11 jO j0 fM fO jc=>
 cases hg
 refine hide fun GG gg=>?_
 obtain ⟨x,y,hb,x0,y0,y3⟩:=Wg (C:=C) (ns:=ns) k0 k9
 have hB0:=V8 C x0 y0 y3
 obtain ⟨zs,C1,e2,hN,h9,sO⟩:=O6 (m:=9) (j:=799760) hB0 (by decide) (by decide)
 have h9':zs.length=9:=by rw [h9]; rfl
 obtain ⟨ps,ht,C2,e3,hP,p1,hG,hB2⟩:=O8 (j:=798224) sO h9' hN.1
 have hr:=Rw hN.2 hP hG
 have Wx:=hG.r20
 have h8:ht.ps.length≤8:=by rw [hG.parts.length_eq]; exact hG.p8
 have f1:=rT (fe:=Dk) (C:=C2) (ps:=ht.ps) rfl
 have f2:=Gw (C:=C2) (fe:=Dj) (l:=ht.bw) (fun r=>r.2.1) PyData.str fun r=>⟨[some (.im (cZ r))],by simp_arith []⟩
 obtain ⟨own,Dq⟩:∃own,own=ht.ps.map (·.1):=⟨_,rfl⟩
 obtain ⟨hs,hsE⟩:∃hs,hs=ht.bw.map (·.2.1):=⟨_,rfl⟩
 have ol:own.length≤8:=by rw [Dq,List.length_map]; exact h8
 have hl:hs.length≤20:=by rw [hsE,List.length_map]; exact Wx
 obtain ⟨l1,l2,l3,pe,a1,a2,a3,a4,hpe⟩:=KC hs zs own (Str.ofString "qqqqqqqq") hl h9' ol
 obtain ⟨d0,C3,e4,_,_,hB3⟩:=wD (j:=798220) hB2
 subst Dq
 subst hsE
 obtain ⟨adB,e5,hE5⟩:=Yu (C:=C3) hN hP hG hpe (.mk (some (.ow (.list ((ht.ps.map (·.1)).map .str)))) v9 v10 v11 jO j0 jc (.inl rfl):LA ns k C.length (some (.ow (.list (zs.map .str)))) ht (bG ht).shown pe fM fO _) [0,99999,d0]
 cases hE5 with
 | mk w6 w9 w10 w11 w12 w13 w16 h6=>
 have f3:=Gw (C:=C3) (fe:=Di) (l:=ht.bw) (fun r=>r.2.2.2.2.1) PyData.int fun r=>⟨[some (.im (cZ r))],by simp_arith []⟩
 have f4:=Gw (C:=C3) (fe:=Dh) (l:=ht.bw) (fun r=>r.2.2.2.2.2) PyData.int fun r=>⟨[some (.im (cZ r))],by simp_arith []⟩
 obtain ⟨lo,hi,ds,t1,t2,b2,m1,b3,m3,f5,dl,far⟩:=Wk (C:=C3) ht.bw Wx
 have q1:(ht.bw.length≤1000000)=True:=eq_true (by omega)
 have q2:(ht.ps.length≤1000000)=True:=eq_true (by omega)
 have q3:(ds.length≤1000000)=True:=eq_true (by omega)
 obtain ⟨adD,e6,hE6⟩:=Yv (C:=C3) hN hP hG hpe (.mk w6 w9 w10 w11 w12 w13 w16 h6:LA ns k C.length (some (.ow (.list (zs.map .str)))) ht (bG ht).shown pe (some (.im (.int (lo - 1)))) (some (.im (.int (hi + 1)))) _) ds far
 cases hE6
 simp only [qQ,List.map_cons,List.map_nil] at e5 e6
 refine gg ?_
 simp_arith [qM,Nr,hb,intsOf,e2,e3,Sg,hr,f1,f2,q1,q2,a1,a2,a3,a4,Il,fK,e4,e5,f3,f4,b2,b3,m1,m3,f5,q3,e6,List.set_cons_succ,List.set_cons_zero]
 exact ⟨_,_,rfl,.mk ..⟩
theorem Ph (ns:List Int) (h:ns.length≤63):∃C',yM [.sc ns] []=some (.im (.bool true),C'):=by
 obtain ⟨m,hm,m1,m2⟩:∃m:Int,(1 + if (ns.length:Int) < 6 then (ns.length:Int) else 6)=m∧0≤m∧m≤7:=⟨_,rfl,by split <;> omega,by split <;> omega⟩
 obtain ⟨env',C',e,he⟩:=b7 (g:=gNm 1) (body:=qM) (its:=oE 0 m.toNat) (env:=[some (.sc ns),none,none,none,none,none,none,none,none,none,none,none,none,none,none,none,none]) (C:=[])
  (fun i env C1=>RE ns env) (.mk ..) (fun i d env C1 hd hI=>by
   obtain ⟨rfl,hi⟩:=kI hd
   have hg:∃e0,gNm 1 (.int (0 + i)) env=some e0:=by cases hI; exact ⟨_,rfl⟩
   obtain ⟨e0,hg⟩:=hg
   obtain ⟨C2,e1,e,hE⟩:=Pg (C:=C1) hI (by omega) (by omega) hg
   exact ⟨e0,.nx,e1,C2,hg,e,.inl rfl,hE⟩)
 refine ⟨C'.take 0,?_⟩
 unfold yM fN
 rw [if_pos (show [Vl.sc ns].length=1 from rfl),show ([Vl.sc ns].map some++List.replicate (17 - [Vl.sc ns].length) none)=[some (.sc ns),none,none,none,none,none,none,none,none,none,none,none,none,none,none,none,none] from rfl]
 simp_arith [O1,fK,Dv,tG,zR,hm,Gh (m:=m) (by omega) (by omega),e,Cm]
theorem all_mk {l:PySem.W.OpenLaw} {w:World} {K:PySem.W.Frag} {h:Heap} {mg:Str→Option Value} {fa:Addr} (X:K.In h) (G:h.Ns mainGlobals mg) (hfa:mg "law"=some (.ref fa))
  {f0 f1 f2 f3 f4 f5 f6 f7 f8 f9 Zf f11 Zg Zh Zi f15 Zj f17:Addr} {od0 an0 od1 an1 od2 an2 od3 an3 od4 an4 od5 an5 od6 an6 od7 an7 od8 an8 od9 an9 aaz aaA aaB aaC aaD aaE aaF aaG aaH aaI aaJ aaK aaL aaM aaN Yw:Option Addr} {sl0 sl1 sl2 sl3 sl4 sl5 sl6 sl7 sl8 sl9 aaO aaP aaQ aaR aaS aaT aaU aaV:Array (Option Value)} {oc0 kV0 dc0 pm0 cd0 ct0 oc1 kV1 dc1 pm1 cd1 ct1 oc2 kV2 dc2 pm2 cd2 ct2 oc3 kV3 dc3 pm3 cd3 ct3 oc4 kV4 dc4 pm4 cd4 ct4 oc5 kV5 dc5 pm5 cd5 ct5 oc6 kV6 dc6 pm6 cd6 ct6 oc7 kV7 dc7 pm7 cd7 ct7 oc8 kV8 dc8 pm8 cd8 ct8 oc9 kV9 dc9 pm9 cd9 ct9 aaW aaX aaY aaZ Yx aa0 aa1 aa2 aa3 aa4 Yy aa5 aa6 aa7 aa8 aa9 Yz aba abb abd abe abf YB abg abh abi abj abk YC abl abm abn abo abp YD abq abr abt abu abv YF abw abx YG YH YJ Wl YK:Value}
  (a0:PySem.W.nsIn K mainGlobals "parts_over"=some (some (.ref f0))) (l0:K.lookup f0=some ⟨oc0,od0,.func (PySem.W.fnOf "parts_over" "parts_over" (bV dj) (bO dj) (aC dj) .none kV0 dc0 pm0 an0 cd0 ct0),sl0⟩) (c0:PySem.W.codeIn K cd0 "parts_over"=true) (k0:PySem.W.keepIn K (.ref f0)=true)
  (a1:PySem.W.nsIn K mainGlobals "rank_of"=some (some (.ref f1))) (l1:K.lookup f1=some ⟨oc1,od1,.func (PySem.W.fnOf "rank_of" "rank_of" (bV gf) (bO gf) (aC gf) .none kV1 dc1 pm1 an1 cd1 ct1),sl1⟩) (c1:PySem.W.codeIn K cd1 "rank_of"=true) (k1:PySem.W.keepIn K (.ref f1)=true)
  (a2:PySem.W.nsIn K mainGlobals "holders_of"=some (some (.ref f2))) (l2:K.lookup f2=some ⟨oc2,od2,.func (PySem.W.fnOf "holders_of" "holders_of" (bV cM) (bO cM) (aC cM) .none kV2 dc2 pm2 an2 cd2 ct2),sl2⟩) (c2:PySem.W.codeIn K cd2 "holders_of"=true) (k2:PySem.W.keepIn K (.ref f2)=true)
  (a3:PySem.W.nsIn K mainGlobals "empty_house"=some (some (.ref f3))) (l3:K.lookup f3=some ⟨oc3,od3,.func (PySem.W.fnOf "empty_house" "empty_house" (bV dz) (bO dz) (aC dz) .none kV3 dc3 pm3 an3 cd3 ct3),sl3⟩) (c3:PySem.W.codeIn K cd3 "empty_house"=true) (k3:PySem.W.keepIn K (.ref f3)=true)
  (a4:PySem.W.nsIn K mainGlobals "seats_of"=some (some (.ref f4))) (l4:K.lookup f4=some ⟨oc4,od4,.func (PySem.W.fnOf "seats_of" "seats_of" (bV dU) (bO dU) (aC dU) .none kV4 dc4 pm4 an4 cd4 ct4),sl4⟩) (c4:PySem.W.codeIn K cd4 "seats_of"=true) (k4:PySem.W.keepIn K (.ref f4)=true)
  (a5:PySem.W.nsIn K mainGlobals "rules_for"=some (some (.ref f5))) (l5:K.lookup f5=some ⟨oc5,od5,.func (PySem.W.fnOf "rules_for" "rules_for" (bV dW) (bO dW) (aC dW) .none kV5 dc5 pm5 an5 cd5 ct5),sl5⟩) (c5:PySem.W.codeIn K cd5 "rules_for"=true) (k5:PySem.W.keepIn K (.ref f5)=true)
  (a6:PySem.W.nsIn K mainGlobals "_law_box"=some (some (.ref f6))) (l6:K.lookup f6=some ⟨oc6,od6,.func (PySem.W.fnOf "_law_box" "_law_box" (bV su) (bO su) (aC su) .none kV6 dc6 pm6 an6 cd6 ct6),sl6⟩) (c6:PySem.W.codeIn K cd6 "_law_box"=true) (k6:PySem.W.keepIn K (.ref f6)=true)
  (a7:PySem.W.nsIn K mainGlobals "_law_take"=some (some (.ref f7))) (l7:K.lookup f7=some ⟨oc7,od7,.func (PySem.W.fnOf "_law_take" "_law_take" (bV nU) (bO nU) (aC nU) .none kV7 dc7 pm7 an7 cd7 ct7),sl7⟩) (c7:PySem.W.codeIn K cd7 "_law_take"=true) (k7:PySem.W.keepIn K (.ref f7)=true)
  (a8:PySem.W.nsIn K mainGlobals "_law_names"=some (some (.ref f8))) (l8:K.lookup f8=some ⟨oc8,od8,.func (PySem.W.fnOf "_law_names" "_law_names" (bV fQ) (bO fQ) (aC fQ) .none kV8 dc8 pm8 an8 cd8 ct8),sl8⟩) (c8:PySem.W.codeIn K cd8 "_law_names"=true) (k8:PySem.W.keepIn K (.ref f8)=true)
  (a9:PySem.W.nsIn K mainGlobals "_law_day"=some (some (.ref f9))) (l9:K.lookup f9=some ⟨oc9,od9,.func (PySem.W.fnOf "_law_day" "_law_day" (bV sy) (bO sy) (aC sy) .none kV9 dc9 pm9 an9 cd9 ct9),sl9⟩) (c9:PySem.W.codeIn K cd9 "_law_day"=true) (k9:PySem.W.keepIn K (.ref f9)=true)
  (a10:PySem.W.nsIn K mainGlobals "_law_sum"=some (some (.ref Zf))) (l10:K.lookup Zf=some ⟨aaW,aaz,.func (PySem.W.fnOf "_law_sum" "_law_sum" (bV sE) (bO sE) (aC sE) .none aaX aaY aaZ aaA Yx aa0),aaO⟩) (c10:PySem.W.codeIn K Yx "_law_sum"=true) (k10:PySem.W.keepIn K (.ref Zf)=true)
  (a11:PySem.W.nsIn K mainGlobals "_law_numbers"=some (some (.ref f11))) (l11:K.lookup f11=some ⟨aa1,aaB,.func (PySem.W.fnOf "_law_numbers" "_law_numbers" (bV gj) (bO gj) (aC gj) .none aa2 aa3 aa4 aaC Yy aa5),aaP⟩) (c11:PySem.W.codeIn K Yy "_law_numbers"=true) (k11:PySem.W.keepIn K (.ref f11)=true)
  (a12:PySem.W.nsIn K mainGlobals "_law_many"=some (some (.ref Zg))) (l12:K.lookup Zg=some ⟨aa6,aaD,.func (PySem.W.fnOf "_law_many" "_law_many" (bV nW) (bO nW) (aC nW) .none aa7 aa8 aa9 aaE Yz aba),aaQ⟩) (c12:PySem.W.codeIn K Yz "_law_many"=true) (k12:PySem.W.keepIn K (.ref Zg)=true)
  (a13:PySem.W.nsIn K mainGlobals "_law_parts"=some (some (.ref Zh))) (l13:K.lookup Zh=some ⟨abb,aaF,.func (PySem.W.fnOf "_law_parts" "_law_parts" (bV jd) (bO jd) (aC jd) .none abd abe abf aaG YB abg),aaR⟩) (c13:PySem.W.codeIn K YB "_law_parts"=true) (k13:PySem.W.keepIn K (.ref Zh)=true)
  (a14:PySem.W.nsIn K mainGlobals "_law_house"=some (some (.ref Zi))) (l14:K.lookup Zi=some ⟨abh,aaH,.func (PySem.W.fnOf "_law_house" "_law_house" (bV gQ) (bO gQ) (aC gQ) .none abi abj abk aaI YC abl),aaS⟩) (c14:PySem.W.codeIn K YC "_law_house"=true) (k14:PySem.W.keepIn K (.ref Zi)=true)
  (a15:PySem.W.nsIn K mainGlobals "_law_same"=some (some (.ref f15))) (l15:K.lookup f15=some ⟨abm,aaJ,.func (PySem.W.fnOf "_law_same" "_law_same" (bV jo) (bO jo) (aC jo) .none abn abo abp aaK YD abq),aaT⟩) (c15:PySem.W.codeIn K YD "_law_same"=true) (Zk:PySem.W.keepIn K (.ref f15)=true)
  (a16:PySem.W.nsIn K mainGlobals "_law_nothing"=some (some (.ref Zj))) (Yj:K.lookup Zj=some ⟨abr,aaL,.func (PySem.W.fnOf "_law_nothing" "_law_nothing" (bV fB) (bO fB) (aC fB) .none abt abu abv aaM YF abw),aaU⟩) (c16:PySem.W.codeIn K YF "_law_nothing"=true) (Zm:PySem.W.keepIn K (.ref Zj)=true)
  (a17:PySem.W.nsIn K mainGlobals "law"=some (some (.ref f17))) (l17:K.lookup f17=some ⟨abx,aaN,.func (PySem.W.fnOf "law" "law" (bV gR) (bO gR) (aC gR) .none YG YH YJ Yw Wl YK),aaV⟩) (c17:PySem.W.codeIn K Wl "law"=true) (k17:PySem.W.keepIn K (.ref f17)=true)
  (yH:PySem.W.nsIn K mainGlobals "abs"=some none)
  (yI:PySem.W.nsIn K mainGlobals "all"=some none)
  (pI:PySem.W.nsIn K mainGlobals "bool"=some none)
  (yJ:PySem.W.nsIn K mainGlobals "int"=some none)
  (bu:PySem.W.nsIn K mainGlobals "isinstance"=some none)
  (jq:PySem.W.nsIn K mainGlobals "len"=some none)
  (mW:PySem.W.nsIn K mainGlobals "list"=some none)
  (vL:PySem.W.nsIn K mainGlobals "max"=some none)
  (yK:PySem.W.nsIn K mainGlobals "min"=some none)
  (fU:PySem.W.nsIn K mainGlobals "range"=some none)
  (sH:PySem.W.nsIn K mainGlobals "repr"=some none)
  (Df:PySem.W.nsIn K mainGlobals "set"=some none)
  (eG:PySem.W.nsIn K mainGlobals "sorted"=some none)
  (yL:PySem.W.nsIn K mainGlobals "str"=some none)
  (dZ:PySem.W.nsIn K mainGlobals "tuple"=some none)
  (Dg:PySem.W.nsIn K mainGlobals "zip"=some none)
  :∃fd:FuncData,(∀(s:Shared) (v:Value),BindsTo s fd ⟨[v],[]⟩ [("_law_script",v)])∧∀base:Heap,K.In base→base.Ns mainGlobals mg→dM l.prog w K mg base qO 5 fa fd ["_law_script"] (spT K yM):=by
 have e:=hfa.symm.trans (PySem.W.mg_of X G a17)
 cases e
 have T:Txt K mg:=⟨PySem.W.mg_none_of X G yH,PySem.W.mg_none_of X G yI,PySem.W.mg_none_of X G pI,PySem.W.mg_none_of X G yJ,PySem.W.mg_none_of X G bu,PySem.W.mg_none_of X G jq,PySem.W.mg_none_of X G mW,PySem.W.mg_none_of X G vL,PySem.W.mg_none_of X G yK,PySem.W.mg_none_of X G fU,PySem.W.mg_none_of X G sH,PySem.W.mg_none_of X G Df,PySem.W.mg_none_of X G eG,PySem.W.mg_none_of X G yL,PySem.W.mg_none_of X G dZ,PySem.W.mg_none_of X G Dg⟩
 have F0:=dF (st:=dj) l0 c0 k0
 have F1:=dF (st:=gf) l1 c1 k1
 have F2:=dF (st:=cM) l2 c2 k2
 have F3:=dF (st:=dz) l3 c3 k3
 have F4:=dF (st:=dU) l4 c4 k4
 have F5:=dF (st:=dW) l5 c5 k5
 have F6:=dF (st:=su) l6 c6 k6
 have F7:=dF (st:=nU) l7 c7 k7
 have F8:=dF (st:=fQ) l8 c8 k8
 have F9:=dF (st:=sy) l9 c9 k9
 have F10:=dF (st:=sE) l10 c10 k10
 have F11:=dF (st:=gj) l11 c11 k11
 have F12:=dF (st:=nW) l12 c12 k12
 have F13:=dF (st:=jd) l13 c13 k13
 have F14:=dF (st:=gQ) l14 c14 k14
 have F15:=dF (st:=jo) l15 c15 Zk
 have F16:=dF (st:=fB) Yj c16 Zm
 have F17:=dF (st:=gR) l17 c17 k17
 refine ⟨PySem.W.fnOf "law" "law" (bV gR) (bO gR) (aC gR) .none YG YH YJ Yw Wl YK,fun s v=>.of_eq rfl,fun base _ _=>?_⟩
 have Aj:=xF (P:=l.prog) (w:=w) (mg:=mg) (base:=base) F0 T
 have cC:gq l.prog w K mg base "parts_over" 1 (["house","part"]:List Str) (spT K cA):=⟨f0,_,PySem.W.mg_of X G a0,k0,(F0.binds (ps:=(["house","part"]:List Str)) (fun _ _ _ _ _ _ us hl=>match us,hl with | [_,_],_=>rfl)),Aj⟩
 have KD:=Gr (P:=l.prog) (w:=w) (mg:=mg) (base:=base) F1 T cC
 have dD:gq l.prog w K mg base "rank_of" 2 (["house","person","part","day"]:List Str) (spT K dB):=⟨f1,_,PySem.W.mg_of X G a1,k1,(F1.binds (ps:=(["house","person","part","day"]:List Str)) (fun _ _ _ _ _ _ us hl=>match us,hl with | [_,_,_,_],_=>rfl)),KD⟩
 have Ak:=xG (P:=l.prog) (w:=w) (mg:=mg) (base:=base) F2 T dD
 have cN:gq l.prog w K mg base "holders_of" 3 (["house","rank","part","day"]:List Str) (spT K cB):=⟨f2,_,PySem.W.mg_of X G a2,k2,(F2.binds (ps:=(["house","rank","part","day"]:List Str)) (fun _ _ _ _ _ _ us hl=>match us,hl with | [_,_,_,_],_=>rfl)),Ak⟩
 have xH:=wz (P:=l.prog) (w:=w) (mg:=mg) (base:=base) F3 T
 have jM:gq l.prog w K mg base "empty_house" 1 ([]:List Str) (spT K eN):=⟨f3,_,PySem.W.mg_of X G a3,k3,(F3.binds (ps:=([]:List Str)) (fun _ _ _ _ _ _ us hl=>match us,hl with | [],_=>rfl)),xH⟩
 have Dt:=Ag (P:=l.prog) (w:=w) (mg:=mg) (base:=base) F5 T cC
 have nD:gq l.prog w K mg base "rules_for" 2 (["house","part"]:List Str) (spT K gU):=⟨f5,_,PySem.W.mg_of X G a5,k5,(F5.binds (ps:=(["house","part"]:List Str)) (fun _ _ _ _ _ _ us hl=>match us,hl with | [_,_],_=>rfl)),Dt⟩
 have Gx:=Dl (P:=l.prog) (w:=w) (mg:=mg) (base:=base) F4 T nD
 have lB:gq l.prog w K mg base "seats_of" 3 (["house","part","amount"]:List Str) (spT K gk):=⟨f4,_,PySem.W.mg_of X G a4,k4,(F4.binds (ps:=(["house","part","amount"]:List Str)) (fun _ _ _ _ _ _ us hl=>match us,hl with | [_,_,_],_=>rfl)),Gx⟩
 have Wm:=RL (P:=l.prog) (w:=w) (mg:=mg) (base:=base) F6 T
 have Gs:gq l.prog w K mg base "_law_box" 1 (["_law_script","_law_k"]:List Str) (spT K vP):=⟨f6,_,PySem.W.mg_of X G a6,k6,(F6.binds (ps:=(["_law_script","_law_k"]:List Str)) (fun _ _ _ _ _ _ us hl=>match us,hl with | [_,_],_=>rfl)),Wm⟩
 have Ss:=O2 (P:=l.prog) (w:=w) (mg:=mg) (base:=base) F7 T
 have aN:gq l.prog w K mg base "_law_take" 1 (["_law_box_here","_law_many_here"]:List Str) (spT K aM):=⟨f7,_,PySem.W.mg_of X G a7,k7,(F7.binds (ps:=(["_law_box_here","_law_many_here"]:List Str)) (fun _ _ _ _ _ _ us hl=>match us,hl with | [_,_],_=>rfl)),Ss⟩
 have Pj:=Kv (P:=l.prog) (w:=w) (mg:=mg) (base:=base) F8 T aN
 have wB:gq l.prog w K mg base "_law_names" 2 (["_law_box_here","_law_many_here"]:List Str) (spT K mZ):=⟨f8,_,PySem.W.mg_of X G a8,k8,(F8.binds (ps:=(["_law_box_here","_law_many_here"]:List Str)) (fun _ _ _ _ _ _ us hl=>match us,hl with | [_,_],_=>rfl)),Pj⟩
 have Wn:=RM (P:=l.prog) (w:=w) (mg:=mg) (base:=base) F9 T aN
 have lz:gq l.prog w K mg base "_law_day" 2 (["_law_box_here"]:List Str) (spT K jJ):=⟨f9,_,PySem.W.mg_of X G a9,k9,(F9.binds (ps:=(["_law_box_here"]:List Str)) (fun _ _ _ _ _ _ us hl=>match us,hl with | [_],_=>rfl)),Wn⟩
 have Wo:=RN (P:=l.prog) (w:=w) (mg:=mg) (base:=base) F10 T aN
 have Ah:gq l.prog w K mg base "_law_sum" 2 (["_law_box_here"]:List Str) (spT K sJ):=⟨Zf,_,PySem.W.mg_of X G a10,k10,(F10.binds (ps:=(["_law_box_here"]:List Str)) (fun _ _ _ _ _ _ us hl=>match us,hl with | [_],_=>rfl)),Wo⟩
 have Gy:=Dm (P:=l.prog) (w:=w) (mg:=mg) (base:=base) F11 T aN
 have lA:gq l.prog w K mg base "_law_numbers" 2 (["_law_box_here","_law_many_here"]:List Str) (spT K gm):=⟨f11,_,PySem.W.mg_of X G a11,k11,(F11.binds (ps:=(["_law_box_here","_law_many_here"]:List Str)) (fun _ _ _ _ _ _ us hl=>match us,hl with | [_,_],_=>rfl)),Gy⟩
 have Su:=O3 (P:=l.prog) (w:=w) (mg:=mg) (base:=base) F12 T aN
 have iJ:gq l.prog w K mg base "_law_many" 2 (["_law_box_here","_law_most"]:List Str) (spT K gB):=⟨Zg,_,PySem.W.mg_of X G a12,k12,(F12.binds (ps:=(["_law_box_here","_law_most"]:List Str)) (fun _ _ _ _ _ _ us hl=>match us,hl with | [_,_],_=>rfl)),Su⟩
 have Pk:=Kw (P:=l.prog) (w:=w) (mg:=mg) (base:=base) F13 T aN iJ
 have wA:gq l.prog w K mg base "_law_parts" 3 (["_law_box_here","_law_names_here"]:List Str) (spT K nj):=⟨Zh,_,PySem.W.mg_of X G a13,k13,(F13.binds (ps:=(["_law_box_here","_law_names_here"]:List Str)) (fun _ _ _ _ _ _ us hl=>match us,hl with | [_,_],_=>rfl)),Pk⟩
 have Pn:=Ky (P:=l.prog) (w:=w) (mg:=mg) (base:=base) F14 T aN lz Ah lA iJ wA
 have wC:gq l.prog w K mg base "_law_house" 4 (["_law_box_here","_law_names_here"]:List Str) (spT K nu):=⟨Zi,_,PySem.W.mg_of X G a14,k14,(F14.binds (ps:=(["_law_box_here","_law_names_here"]:List Str)) (fun _ _ _ _ _ _ us hl=>match us,hl with | [_,_],_=>rfl)),Pn⟩
 have gC:gq l.prog w K mg base "_law_same" 3 (["_law_found","_law_due"]:List Str) (spT K (cj 3)):=yN (PySem.W.mg_of X G a15) Zk (F15.binds (ps:=(["_law_found","_law_due"]:List Str)) (fun _ _ _ _ _ _ us hl=>match us,hl with | [_,_],_=>rfl)) F15 T 3
 have Gz:=Dn (P:=l.prog) (w:=w) (mg:=mg) (base:=base) F16 T cC dD cN lB gC
 have lC:gq l.prog w K mg base "_law_nothing" 4 (["_law_house_here","_law_people","_law_part","_law_day_here"]:List Str) (spT K gn):=⟨Zj,_,PySem.W.mg_of X G a16,Zm,(F16.binds (ps:=(["_law_house_here","_law_people","_law_part","_law_day_here"]:List Str)) (fun _ _ _ _ _ _ us hl=>match us,hl with | [_,_,_,_],_=>rfl)),Gz⟩
 have o_law:=Wf (P:=l.prog) (w:=w) (mg:=mg) (base:=base) F17 T dD cN jM Gs wB lz wC gC lC
 exact o_law
theorem walk {l:PySem.W.OpenLaw} {q:Program} {loose:List Str} {XP:(Str→Option Value)→Heap→Prop} {YP:World→Heap→Prop} {d:DefRec} {K:Params→PySem.W.Frag} (hn:l.most=some 63) (hdf:d.params.defaults=[])
  (hY:∀(w:World) (h:Heap),YP w h→(K w.params).In h)
  (F:∀(w:World) (mg:Str→Option Value) (fa:Addr) (h:Heap),(K w.params).In h→h.Ns mainGlobals mg→mg d.name=some (.ref fa)→
   ∃fd:FuncData,(∀(s:Shared) (u:Value),BindsTo s fd ⟨[u],[]⟩ [("_law_script",u)])∧∀base:Heap,(K w.params).In base→base.Ns mainGlobals mg→dM l.prog w (K w.params) mg base qO 5 fa fd ["_law_script"] (spT (K w.params) yM)):
  PySem.W.WalkO q loose XP YP l.row.toRowW d [] (fun f vs=>PySem.call f vs):=
 L2.Qq (n:=63) (k:=5) (x:="_law_script") (CX:=fun _=>qO) (sp:=fun w=>spT (K w.params) yM) hn (by decide) hdf ⟨rfl,by decide,by decide,rfl⟩ hY F (fun _ _ a ns hl _ hS=>let ⟨_,h⟩:=Ph ns hl; VM hS h) fun _ _ _ _ _ z=>z
end K09
open PySem PySem.W PyProof.Rows
set_option maxRecDepth 100000 in
set_option maxHeartbeats 0 in
theorem PySem.Challenge.cw_rankseals_k09_strange_names_and_far_days_holds : PySem.Challenge.rw_rankseals_k09_strange_names_and_far_days.Holds := by
 w_on; o_law; k_head; (case hw=>w_witness2)
 k_fill
 refine K09.walk (l:=PySem.Challenge.rw_rankseals_k09_strange_names_and_far_days) rfl rfl (fun w h Y=>PySem.W.kIn_of Y) ?F
 case F=>
  intro w mg fa h KX G hmg
  refine' K09.all_mk KX G hmg ?a0 ?l0 ?c0 ?k0 ?a1 ?l1 ?c1 ?k1 ?a2 ?l2 ?c2 ?k2 ?a3 ?l3 ?c3 ?k3 ?a4 ?l4 ?c4 ?k4 ?a5 ?l5 ?c5 ?k5 ?a6 ?l6 ?c6 ?k6 ?a7 ?l7 ?c7 ?k7 ?a8 ?l8 ?c8 ?k8 ?a9 ?l9 ?c9 ?k9 ?a10 ?l10 ?c10 ?k10 ?a11 ?l11 ?c11 ?k11 ?a12 ?l12 ?c12 ?k12 ?a13 ?l13 ?c13 ?k13 ?a14 ?l14 ?c14 ?k14 ?a15 ?l15 ?c15 ?Zk ?a16 ?Yj ?c16 ?Zm ?a17 ?l17 ?c17 ?k17 ?yH ?yI ?pI ?yJ ?bu ?jq ?mW ?vL ?yK ?fU ?sH ?Df ?eG ?yL ?dZ ?Dg
  (case a0=>k_is)
  (case l0=>k_is)
  (case c0=>k_is)
  (case k0=>k_is)
  (case a1=>k_is)
  (case l1=>k_is)
  (case c1=>k_is)
  (case k1=>k_is)
  (case a2=>k_is)
  (case l2=>k_is)
  (case c2=>k_is)
  (case k2=>k_is)
  (case a3=>k_is)
  (case l3=>k_is)
  (case c3=>k_is)
  (case k3=>k_is)
  (case a4=>k_is)
  (case l4=>k_is)
  (case c4=>k_is)
  (case k4=>k_is)
  (case a5=>k_is)
  (case l5=>k_is)
  (case c5=>k_is)
  (case k5=>k_is)
  (case a6=>k_is)
  (case l6=>k_is)
  (case c6=>k_is)
  (case k6=>k_is)
  (case a7=>k_is)
  (case l7=>k_is)
  (case c7=>k_is)
  (case k7=>k_is)
  (case a8=>k_is)
  (case l8=>k_is)
  (case c8=>k_is)
  (case k8=>k_is)
  (case a9=>k_is)
  (case l9=>k_is)
  (case c9=>k_is)
  (case k9=>k_is)
  (case a10=>k_is)
  (case l10=>k_is)
  (case c10=>k_is)
  (case k10=>k_is)
  (case a11=>k_is)
  (case l11=>k_is)
  (case c11=>k_is)
  (case k11=>k_is)
  (case a12=>k_is)
  (case l12=>k_is)
  (case c12=>k_is)
  (case k12=>k_is)
  (case a13=>k_is)
  (case l13=>k_is)
  (case c13=>k_is)
  (case k13=>k_is)
  (case a14=>k_is)
  (case l14=>k_is)
  (case c14=>k_is)
  (case k14=>k_is)
  (case a15=>k_is)
  (case l15=>k_is)
  (case c15=>k_is)
  (case Zk=>k_is)
  (case a16=>k_is)
  (case Yj=>k_is)
  (case c16=>k_is)
  (case Zm=>k_is)
  (case a17=>k_is)
  (case l17=>k_is)
  (case c17=>k_is)
  (case k17=>k_is)
  (case yH=>k_is)
  (case yI=>k_is)
  (case pI=>k_is)
  (case yJ=>k_is)
  (case bu=>k_is)
  (case jq=>k_is)
  (case mW=>k_is)
  (case vL=>k_is)
  (case yK=>k_is)
  (case fU=>k_is)
  (case sH=>k_is)
  (case Df=>k_is)
  (case eG=>k_is)
  (case yL=>k_is)
  (case dZ=>k_is)
  (case Dg=>k_is)
