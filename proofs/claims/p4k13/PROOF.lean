import PyProof.Rows.All
import Wide.All
import OpenK.AllK
import Wide.FinOn
import Lean
import PyProof.EqAt
import PyProof.EqKinds
import PyProof.TupleCall
import PySem.Challenge.RW_rankseals_k13_leaves_that_let_one_step
set_option Elab.async false
set_option linter.all false
set_option maxRecDepth 100000
set_option maxHeartbeats 4000000
namespace L2
open PySem PySem.Spec PyProof.Rows
noncomputable abbrev Key:=Sum Int Str
noncomputable def wR:Key→Value→Bool
 | .inl k,v=>Value.isInt k v
 | .inr x,v=>Value.isStrOf x v
noncomputable def YB (w:World):Key→Int
 | .inl k=>hashInt k
 | .inr x=>hashStr w x
theorem cz:∀{k:Key} {v:Value},wR k v=true→(∃i t,k=Sum.inl i∧v=Value.int i t)∨(∃x t,k=Sum.inr x∧v=Value.str x t)
 | .inl i,v,h=>by
  obtain ⟨t,e⟩:=Value.isInt_shape (k:=i) (v:=v) h
  exact .inl ⟨i,t,rfl,e⟩
 | .inr x,v,h=>by
  obtain ⟨t,e⟩:=Value.isStrOf_shape (x:=x) (v:=v) h
  exact .inr ⟨x,t,rfl,e⟩
theorem Ij (i:Int) (t:Tok):wR (.inl i) (.int i t)=true:=by simp [wR,Value.isInt]
theorem Ik (x:Str) (t:Tok):wR (.inr x) (.str x t)=true:=by simp [wR,Value.isStrOf]
theorem Su (a b:Int):decide ((Sum.inl a:Key)=Sum.inl b)=(a==b):=by
 by_cases e:a=b
 ·subst e; simp
 ·have h:¬(Sum.inl a:Key)=Sum.inl b:=fun q=>e (Sum.inl.inj q)
  rw [decide_eq_false h]
  exact (beq_eq_false_iff_ne.mpr e).symm
theorem Sv (a b:Str):decide ((Sum.inr a:Key)=Sum.inr b)=decide (a=b):=by
 by_cases e:a=b
 ·subst e; simp
 ·have h:¬(Sum.inr a:Key)=Sum.inr b:=fun q=>e (Sum.inr.inj q)
  rw [decide_eq_false h,decide_eq_false e]
theorem Sw (a:Int) (b:Str):decide ((Sum.inl a:Key)=Sum.inr b)=false:=decide_eq_false (fun q=>nomatch q)
theorem Sx (a:Str) (b:Int):decide ((Sum.inr a:Key)=Sum.inl b)=false:=decide_eq_false (fun q=>nomatch q)
noncomputable def cj (prog:Program) (w:World):PySem.KeyKind prog w Key where
 is:=wR
 hash:=YB w
 inj:=fun v a b ha hb=>by
  rcases cz ha with ⟨i,t,rfl,rfl⟩ | ⟨x,t,rfl,rfl⟩
  ·rcases cz hb with ⟨j,u,rfl,e⟩ | ⟨y,u,rfl,e⟩
   ·injection e with e1 _; rw [e1]
   ·exact nomatch e
  ·rcases cz hb with ⟨j,u,rfl,e⟩ | ⟨y,u,rfl,e⟩
   ·exact nomatch e
   ·injection e with e1 _; rw [e1]
 byValue:=fun k v h=>by
  rcases cz h with ⟨i,t,rfl,rfl⟩ | ⟨x,t,rfl,rfl⟩ <;> rfl
 pyHash:=fun hv h=>by
  rcases cz hv with ⟨i,t,rfl,rfl⟩ | ⟨x,t,rfl,rfl⟩
  ·exact wpAny_pyHash_int h
  ·exact wpAny_pyHash_str h
 eqBool:=fun hu hv h=>by
  rcases cz hu with ⟨i,t,rfl,rfl⟩ | ⟨x,t,rfl,rfl⟩
  ·rcases cz hv with ⟨j,u,rfl,rfl⟩ | ⟨y,u,rfl,rfl⟩
   ·rw [Su] at h; exact wpAny_eqBool_int h
   ·rw [Sw] at h; exact SeqAt.EqAt.int_str i t y u _ _ _ _ h
  ·rcases cz hv with ⟨j,u,rfl,rfl⟩ | ⟨y,u,rfl,rfl⟩
   ·rw [Sx] at h; exact SeqAt.EqAt.str_int x t j u _ _ _ _ h
   ·rw [Sv] at h; exact wpAny_eqBool_str h
 «strs»:=fun k x t v h=>by
  rcases cz h with ⟨i,u,rfl,e⟩ | ⟨y,u,rfl,e⟩
  ·exact nomatch e
  ·injection e with e1 _
   subst e1
   cases v <;> rfl
theorem Af (prog:Program) (w:World) (i:Int) (t:Tok):(cj prog w).is (.inl i) (.int i t)=true:=Ij i t
theorem Ag (prog:Program) (w:World) (x:Str) (t:Tok):(cj prog w).is (.inr x) (.str x t)=true:=Ik x t
end L2
namespace L2
open PySem PySem.Spec PyProof.Rows
inductive V where
 | non | bl (b:Bool) | int (i:Int) | str (x:Str) | Il (b:Array UInt8) | flt (b:UInt64) | ref (a:Addr) | ty (n:String)
 deriving DecidableEq
noncomputable def RelV:V→Value→Prop
 | .non,u=>u=Value.none
 | .bl b,u=>u=Value.bool b
 | .int i,u=>∃t,u=Value.int i t
 | .str x,u=>∃t,u=Value.str x t
 | .Il b,u=>∃t,u=Value.bytes b t
 | .flt b,u=>∃t,u=Value.float b t
 | .ref a,u=>u=Value.ref a
 | .ty n,u=>u=Value.type n
noncomputable abbrev Vals:List V→List Value→Prop:=Paired RelV
theorem Vals.length {xs:List V} {us:List Value} (r:Vals xs us):xs.length=us.length:=Paired.length r
theorem Vals.get:∀{xs:List V} {us:List Value} {i:Nat} {x:V},Vals xs us→xs[i]?=some x→∃u,us[i]?=some u∧RelV x u
 | _,_,_,_,.nil,e=>by simp at e
 | _,_,0,_,.cons r _,e=>by simp at e; subst e; exact ⟨_,rfl,r⟩
 | _,_,i + 1,x,.cons _ t,e=>by
  obtain ⟨u,h1,h2⟩:=Vals.get (i:=i) (x:=x) t (by simpa using e)
  exact ⟨u,by simpa using h1,h2⟩
theorem Vals.set {x:V} {u:Value} (r:RelV x u):∀{xs:List V} {us:List Value} (i:Nat),Vals xs us→Vals (xs.set i x) (us.set i u)
 | _,_,_,.nil=>.nil
 | _,_,0,.cons _ t=>.cons r t
 | _,_,i + 1,.cons q t=>.cons q (Vals.set r i t)
theorem Vals.append:∀{xs ys:List V} {us ws:List Value},Vals xs us→Vals ys ws→Vals (xs++ys) (us++ws)
 | _,_,_,_,.nil,s=>s
 | _,_,_,_,.cons r t,s=>.cons r (Vals.append t s)
theorem Vals.take:∀{xs:List V} {us:List Value} (n:Nat),Vals xs us→Vals (xs.take n) (us.take n)
 | _,_,0,_=>.nil
 | _,_,_ + 1,.nil=>.nil
 | _,_,n + 1,.cons r t=>.cons r (Vals.take n t)
theorem Vals.drop:∀{xs:List V} {us:List Value} (n:Nat),Vals xs us→Vals (xs.drop n) (us.drop n)
 | _,_,0,r=>r
 | _,_,_ + 1,.nil=>.nil
 | _,_,n + 1,.cons _ t=>Vals.drop n t
noncomputable def qX:Option V→Option Value→Prop
 | some v,some u=>RelV v u
 | none,none=>True
 | _,_=>False
noncomputable def KV {κ:Type}:List (κ×V)→List (κ×Value)→Prop:=Paired fun (p:κ×V) (q:κ×Value)=>p.1=q.1∧RelV p.2 q.2
noncomputable def kV:Key→V
 | .inl i=>.int i
 | .inr x=>.str x
inductive HO where
 | lst (xs:List V)
 | tup (xs:List V)
 | dK (kvs:List (Key×V)) | dT (kvs:List (List Key×V))
 | set (S:Int→Bool) (n:Nat)
 | ins (C dx:Addr) (fs:List (Str×V))
 | own (x:Addr)
 | xd (fs:List (Str×V))
 | met (f x:Addr)
 | YC (lo hi:Int)
 | Ad (o:Obj) (u:HO)
 | Sy (ps:Array Value)
 | ext (φ:Heap→Prop)
noncomputable abbrev Hp:=Addr→Option HO
noncomputable def upd (H:Hp) (a:Addr) (o:HO):Hp:=fun b=>if b=a then some o else H b
theorem aL {H:Hp} {a:Addr} {o:HO}:upd H a o a=some o:=by unfold upd; rw [if_pos rfl]
theorem aJ {H:Hp} {a b:Addr} {o:HO} (h:b≠a):upd H a o b=H b:=by unfold upd; rw [if_neg h]
theorem Gn {H:Hp} {a:Addr} {o u:HO}:upd (upd H a o) a u=upd H a u:=by
 funext b; unfold upd; split <;> rfl
theorem Kf {H:Hp} {a b:Addr} {o u:HO} (h:H a=some o) (h':H b=some u) (d:o≠u):a≠b:=by
 intro e; subst e; rw [h] at h'; exact d (Option.some.inj h')
theorem bz {H:Hp} {a b:Addr} {o:HO} (h:H a=some o) (h':H b=none):a≠b:=by
 intro e; subst e; rw [h] at h'; cases h'
section
variable (P:Program) (w:World)
noncomputable def bW (H:Hp) (h:Heap) (a:Addr):HO→Prop
 | .lst xs=>xs.length≤sizeLine∧∃(its:List Value) (n:Nat),Vals xs its∧h.get? a=some { cls:=.type "list",data:=.seq its.toArray n }
 | .tup xs=>xs.length≤sizeLine∧∃its:List Value,Vals xs its∧IsTup h a its.toArray
 | .dK kvs=>kvs.length≤sizeLine∧(a==sysModules)=false∧∃vs,KV kvs vs∧h.DictOf (cj P w) a vs
 | .dT kvs=>kvs.length≤sizeLine∧(a==sysModules)=false∧∃xs:List (List Key×Addr×Value),
   Paired (fun (p:List Key×V) (q:List Key×Addr×Value)=>p.1=q.1∧H q.2.1=some (.tup (p.1.map kV))∧RelV p.2 q.2.2) kvs xs∧
   ∃o es ep,h.get? a=some o∧o.ExactDict∧o.data=.dict es ep∧es.toList=xs.map (entryOfKey (tupleKind (cj P w)))∧(xs.map (·.1)).Nodup
 | .set S n=>h.SetOf (intKind P w) a S n
 | .ins C dx fs=>H dx=some (.own a)∧fs.length≤1000∧dx≠a∧h.get? a=some (PySem.W.instObj C dx)∧
   ∃mA,h.Ns1 dx mA∧(∀f,qX (fs.lookup f) (mA f))∧PySem.Within mA (fs.map (·.1))
 | .own _=>∃o,h.get? a=some o
 | .xd fs=>∃mA,h.Ns1 a mA∧∀f,qX (fs.lookup f) (mA f)
 | .YC lo hi=>∃t u v,h.get? a=some { cls:=.type "range",data:=.fields #[.int lo t,.int hi u,.int 1 v] }
 | .Ad o u=>h.get? a=some o∧bW H h a u
 | .Sy ps=>h.get? a=some { cls:=.none,data:=.fields ps }
 | .met f x=>h.get? a=some (PySem.W.methodObj (.ref f) (.ref x))
 | .ext φ=>φ h∧(∃o,h.get? a=some o)∧∀h1 h2:Heap,φ h1→(∀o,h1.get? a=some o→h2.get? a=some o)→φ h2
noncomputable def pQ (H:Hp) (h:Heap):Prop:=∀a o,H a=some o→bW P w H h a o
end
section
variable {P:Program} {w:World} {H H':Hp} {h h':Heap} {a:Addr} {o:HO}
theorem bW.lt (x:bW P w H h a o):a < h.objs.size:=by
 cases o with
 | lst xs=>obtain ⟨_,_,_,_,e⟩:=x; exact Heap.lt_size e
 | tup xs=>obtain ⟨_,_,_,p⟩:=x; exact p.lt
 | dK kvs=>obtain ⟨_,_,_,_,o,_,_,e,_⟩:=x; exact Heap.lt_size e
 | dT kvs=>obtain ⟨_,_,_,_,o,_,_,e,_⟩:=x; exact Heap.lt_size e
 | set S n=>obtain ⟨o,_,_,_,e,_⟩:=x; exact Heap.lt_size e
 | ins C dx fs=>obtain ⟨_,_,_,e,_⟩:=x; exact Heap.lt_size e
 | own y=>obtain ⟨_,e⟩:=x; exact Heap.lt_size e
 | xd fs=>obtain ⟨_,⟨_,_,_,e,_⟩,_⟩:=x; exact Heap.lt_size e
 | YC lo hi=>obtain ⟨_,_,_,e⟩:=x; exact Heap.lt_size e
 | Ad ob u=>obtain ⟨e,_⟩:=x; exact Heap.lt_size e
 | Sy ps=>exact Heap.lt_size (show h.get? a=some _ from x)
 | met f y=>exact Heap.lt_size (show h.get? a=some _ from x)
 | ext φ=>obtain ⟨_,⟨_,e⟩,_⟩:=x; exact Heap.lt_size e
theorem Paired.SJ {α β:Type} {F G:α→β→Prop}:∀{l₁:List α} {l₂:List β},Paired F l₁ l₂→(∀a b,F a b→G a b)→Paired G l₁ l₂
 | _,_,.nil,_=>.nil
 | _,_,.cons r t,f=>.cons (f _ _ r) (Paired.SJ t f)
theorem bW.stay (x:bW P w H h a o) (k:∀b u,(b=a∨H b=some (.own a))→h.get? b=some u→h'.get? b=some u)
  (ho:∀b,H b=some (.own a)→H' b=some (.own a)) (ht:∀b xs,H b=some (.tup xs)→H' b=some (.tup xs)):bW P w H' h' a o:=by
 induction o with
 | lst xs=>obtain ⟨z,its,n,r,e⟩:=x; exact ⟨z,its,n,r,k _ _ (.inl rfl) e⟩
 | tup xs=>obtain ⟨z,its,r,ob,e,c⟩:=x; exact ⟨z,its,r,ob,k _ _ (.inl rfl) e,c⟩
 | dK kvs=>obtain ⟨z,y,vs,r,ob,es,ep,e,c⟩:=x; exact ⟨z,y,vs,r,ob,es,ep,k _ _ (.inl rfl) e,c⟩
 | dT kvs=>
  obtain ⟨z,y,xs,r,ob,es,ep,e,c⟩:=x
  exact ⟨z,y,xs,Paired.SJ r fun p q z=>⟨z.1,ht _ _ z.2.1,z.2.2⟩,ob,es,ep,k _ _ (.inl rfl) e,c⟩
 | set S n=>obtain ⟨ob,es,ep,t,e,c⟩:=x; exact ⟨ob,es,ep,t,k _ _ (.inl rfl) e,c⟩
 | ins C dx fs=>
  obtain ⟨d,z,ne,e,mA,⟨od,es,ep,e2,c⟩,r⟩:=x
  exact ⟨ho _ d,z,ne,k _ _ (.inl rfl) e,mA,⟨od,es,ep,k _ _ (.inr d) e2,c⟩,r⟩
 | own y=>obtain ⟨ob,e⟩:=x; exact ⟨ob,k _ _ (.inl rfl) e⟩
 | xd fs=>obtain ⟨mA,⟨od,es,ep,e,c⟩,r⟩:=x; exact ⟨mA,⟨od,es,ep,k _ _ (.inl rfl) e,c⟩,r⟩
 | YC lo hi=>obtain ⟨t,u,v,e⟩:=x; exact ⟨t,u,v,k _ _ (.inl rfl) e⟩
 | Ad ob u ih=>obtain ⟨e,q⟩:=x; exact ⟨k _ _ (.inl rfl) e,ih q⟩
 | Sy ps=>
  have e:h.get? a=some { cls:=.none,data:=.fields ps }:=x
  show h'.get? a=some { cls:=.none,data:=.fields ps }
  exact k a _ (.inl rfl) e
 | met f y=>
  have e:h.get? a=some (PySem.W.methodObj (.ref f) (.ref y)):=x
  show h'.get? a=some (PySem.W.methodObj (.ref f) (.ref y))
  exact k a _ (.inl rfl) e
 | ext φ=>obtain ⟨p,⟨o,e⟩,st⟩:=x; exact ⟨st _ _ p fun o q=>k _ _ (.inl rfl) q,⟨o,k _ _ (.inl rfl) e⟩,st⟩
theorem pQ.lt (x:pQ P w H h) (e:H a=some o):a < h.objs.size:=(x a o e).lt
theorem pQ.fresh (x:pQ P w H h) (e:h.objs.size≤a):H a=none:=by
 cases q:H a with
 | none=>rfl
 | some u=>exact absurd (Nat.lt_of_lt_of_le (x.lt q) e) (Nat.lt_irrefl _)
theorem pQ.kept (x:pQ P w H h) (k:∀b u,h.get? b=some u→h'.get? b=some u):pQ P w H h':=fun a o e=>
 (x a o e).stay (fun b u _ q=>k b u q) (fun _ q=>q) fun _ _ q=>q
theorem pQ.laid (x:pQ P w H h) (k:∀b u,h.get? b=some u→h'.get? b=some u) (hp:h.objs.size≤a) (new:bW P w (upd H a o) h' a o):pQ P w (upd H a o) h':=fun b u e=>by
 have hn:=x.fresh hp
 by_cases hb:b=a
 ·subst hb; rw [aL] at e; cases e; exact new
 ·rw [aJ hb] at e
  exact (x b u e).stay (fun c v _ q=>k c v q) (fun c q=>by rw [aJ (bz q hn)]; exact q) fun c xs q=>by rw [aJ (bz q hn)]; exact q
end
noncomputable def Rd (H:Hp) (a:Addr) (u:HO):Prop:=H a=some u∨∃o,H a=some (.Ad o u)
theorem Rd.of {H:Hp} {a:Addr} {u:HO} (h:H a=some u):Rd H a u:=.inl h
theorem Rd.ok {P:Program} {w:World} {H:Hp} {h:Heap} {a:Addr} {u:HO} (r:Rd H a u) (x:pQ P w H h):bW P w H h a u:=by
 rcases r with r | ⟨o,r⟩
 ·exact x a u r
 ·obtain ⟨_,q⟩:=x a _ r
  exact q
noncomputable def VL:Option HO→Prop
 | some (.lst _)=>True
 | some (.dK _)=>True
 | some (.dT _)=>True
 | some (.set _ _)=>True
 | some (.ins _ _ _)=>True
 | some (.ext _)=>True
 | _=>False
section
variable {P:Program} {w:World} {H:Hp} {h h':Heap} {x e:Addr} {o':HO}
theorem pQ.write (ok:pQ P w H h) (mu:VL (H x)) (he:e=x∨H e=some (.own x)) (k:∀b u,b≠e→h.get? b=some u→h'.get? b=some u) (heo:∃u,h'.get? e=some u)
  (new:bW P w (upd H x o') h' x o'):pQ P w (upd H x o') h':=fun b u q=>by
 have VM:∀c y,H c=some (.own y)→c≠x:=fun c y r z=>by subst z; rw [r] at mu; exact mu
 have YD:∀c xs,H c=some (.tup xs)→c≠x:=fun c xs r z=>by subst z; rw [r] at mu; exact mu
 by_cases hb:b=x
 ·subst hb; rw [aL] at q; cases q; exact new
 ·rw [aJ hb] at q
  by_cases hbe:b=e
  ·have q':H b=some (.own x):=by
    rcases he with z | z
    ·exact absurd (hbe.trans z) hb
    ·rw [hbe]; exact z
   rw [q] at q'; cases q'
   obtain ⟨v,hv⟩:=heo
   exact ⟨v,by rw [hbe]; exact hv⟩
  ·refine (ok b u q).stay (fun c v hc r=>k c v ?_ r) (fun c r=>by rw [aJ (VM c b r)]; exact r) fun c xs r=>by rw [aJ (YD c xs r)]; exact r
   rcases hc with rfl | hc
   ·exact hbe
   ·rintro rfl
    rcases he with z | z
    ·exact VM c b hc z
    ·rw [hc] at z; cases z; exact hb rfl
end
structure Un (fs ex:List Addr) (H H':Hp) (h h':Heap):Prop where
 keep:∀b o,h.get? b=some o→H b=none→b∉fs→b∉ex→h'.get? b=some o
 slot:∀b o,h.get? b=some o→H b=none→b∈fs→b∉ex→∃sl,h'.get? b=some { o with slots:=sl }
 free:∀b o,h.get? b=some o→H b=none→b∉ex→H' b=none
 there:∀b o,h.get? b=some o→b∉ex→∃o',h'.get? b=some o'
 tups:∀b xs,H b=some (.tup xs)→H' b=some (.tup xs)
 qY:∀b o u,H b=some (.Ad o u)→H' b=some (.Ad o u)
 sW:∀b ps,H b=some (.Sy ps)→∃more,H' b=some (.Sy (ps++more))
section
variable {fs fs' ex ex':List Addr} {H H1 H2:Hp} {h h1 h2 h':Heap} {a x e:Addr} {o:HO}
theorem Un.any (u:Un fs ex H H1 h h1) {b:Addr} {ob:Obj} (q:h.get? b=some ob) (n:H b=none) (hx:b∉ex):∃sl,h1.get? b=some { ob with slots:=sl }:=by
 by_cases hb:b∈fs
 ·exact u.slot b ob q n hb hx
 ·exact ⟨ob.slots,u.keep b ob q n hb hx⟩
theorem Un.trans (a:Un fs ex H H1 h h1) (b:Un fs ex H1 H2 h1 h2):Un fs ex H H2 h h2 where
 keep:=fun c ob q n hc hx=>b.keep c ob (a.keep c ob q n hc hx) (a.free c ob q n hx) hc hx
 slot:=fun c ob q n hc hx=>by
  obtain ⟨sl,e1⟩:=a.slot c ob q n hc hx
  obtain ⟨sl',e2⟩:=b.slot c _ e1 (a.free c ob q n hx) hc hx
  exact ⟨sl',e2⟩
 free:=fun c ob q n hx=>by
  obtain ⟨o',e1⟩:=a.there c ob q hx
  exact b.free c o' e1 (a.free c ob q n hx) hx
 there:=fun c ob q hx=>by
  obtain ⟨o',e1⟩:=a.there c ob q hx
  exact b.there c o' e1 hx
 tups:=fun c xs q=>b.tups c xs (a.tups c xs q)
 qY:=fun c ob xs q=>b.qY c ob xs (a.qY c ob xs q)
 sW:=fun c ps q=>by
  obtain ⟨m1,e1⟩:=a.sW c ps q
  obtain ⟨m2,e2⟩:=b.sW c _ e1
  exact ⟨m1++m2,by rw [e2,Array.append_assoc]⟩
theorem Un.kept (k:∀b u,h.get? b=some u→h'.get? b=some u):Un fs ex H H h h':=
 ⟨fun b ob q _ _ _=>k b ob q,fun b ob q _ _ _=>⟨ob.slots,k b ob q⟩,fun _ _ _ n _=>n,fun b ob q _=>⟨ob,k b ob q⟩,fun _ _ q=>q,fun _ _ _ q=>q,fun _ ps q=>⟨#[],by rw [q]; simp⟩⟩
theorem Un.refl:Un fs ex H H h h:=Un.kept fun _ _ q=>q
theorem Un.laid (k:∀b u,h.get? b=some u→h'.get? b=some u) (hp:h.objs.size≤a) (hn:H a=none):Un fs ex H (upd H a o) h h' where
 keep:=fun b u q _ _ _=>k b u q
 slot:=fun b u q _ _ _=>⟨u.slots,k b u q⟩
 free:=fun b u q n _=>by rw [aJ (Nat.ne_of_lt (Nat.lt_of_lt_of_le (Heap.lt_size q) hp))]; exact n
 there:=fun b u q _=>⟨u,k b u q⟩
 tups:=fun b xs q=>by rw [aJ (bz q hn)]; exact q
 qY:=fun b u xs q=>by rw [aJ (bz q hn)]; exact q
 sW:=fun b ps q=>⟨#[],by rw [aJ (bz q hn),q]; simp⟩
theorem Un.write (mu:VL (H x)) (he:e=x∨H e=some (.own x)) (k:∀b u,b≠e→h.get? b=some u→h'.get? b=some u) (heo:∃u,h'.get? e=some u):Un fs ex H (upd H x o) h h':=by
 have hx:∀b,H b=none→b≠x:=fun b n z=>by subst z; rw [n] at mu; exact mu
 have hb:∀b,H b=none→b≠e:=fun b n z=>by
  subst z
  rcases he with r | r
  ·exact hx b n r
  ·rw [n] at r; cases r
 have hm:∀b u,H b=some u→¬VL (some u)→b≠x:=fun b u q nm z=>by subst z; rw [q] at mu; exact nm mu
 refine ⟨fun b u q n _ _=>k b u (hb b n) q,fun b u q n _ _=>⟨u.slots,k b u (hb b n) q⟩,fun b u q n _=>by rw [aJ (hx b n)]; exact n,fun b u q _=>?_,
  fun b xs q=>by rw [aJ (hm b _ q fun z=>z)]; exact q,fun b u xs q=>by rw [aJ (hm b _ q fun z=>z)]; exact q,fun b ps q=>⟨#[],by rw [aJ (hm b _ q fun z=>z),q]; simp⟩⟩
 by_cases hbe:b=e
 ·subst hbe; exact heo
 ·exact ⟨u,k b u hbe q⟩
theorem Un.mono (u:Un fs ex H H1 h h1) (hs:∀b∈fs,b∈fs') (hx:∀b∈ex,b∈ex'):Un fs' ex' H H1 h h1:=
 ⟨fun b ob q n hb he=>u.keep b ob q n (fun z=>hb (hs b z)) fun z=>he (hx b z),fun _ _ q n _ he=>u.any q n fun z=>he (hx _ z),fun b ob q n he=>u.free b ob q n fun z=>he (hx b z),fun b ob q he=>u.there b ob q fun z=>he (hx b z),u.tups,u.qY,u.sW⟩
end
noncomputable def X4 (h:Heap) (H:Hp):List Addr:=(List.range h.objs.size).filter fun a=>(H a).isSome
noncomputable def yz (h:Heap) (H:Hp):Heap:=PySem.W.hideAll h (X4 h H)
theorem Im (h:Heap) (H:Hp):(yz h H).objs.size=h.objs.size:=PySem.W.hideAll_size _ _
theorem Kg {h:Heap} {H:Hp} {b:Addr} {o:Obj} (e:h.get? b=some o) (n:H b=none):(yz h H).get? b=some o:=
 PySem.W.hideAll_get _ e fun hm=>by
  have q:(H b).isSome=true:=(List.mem_filter.mp hm).2
  rw [n] at q; simp at q
theorem O2 {h:Heap} {H:Hp} {b:Addr} {o:Obj} (e:(yz h H).get? b=some o):h.get? b=some o∧H b=none:=by
 have e':h.get? b=some o:=PySem.W.of_hideAll (X4 h H) e
 refine ⟨e',?_⟩
 cases q:H b with
 | none=>rfl
 | some x=>
  have hm:b∈X4 h H:=List.mem_filter.mpr ⟨List.mem_range.mpr (Heap.lt_size e'),by simp [q]⟩
  have z:(yz h H).get? b=none:=PySem.W.hideAll_none (X4 h H) hm
  rw [z] at e; cases e
noncomputable def O3 (g h:Heap) (L:Addr):List (Addr×Obj):=(List.range h.objs.size).filterMap fun a=>if a=L∨(g.get? a).isSome=true then none else (h.get? a).map fun o=>(a,o)
noncomputable def rest (g h:Heap) (L d:Addr):List (Addr×Obj):=(O3 g h L).filter fun p=>decide (p.1≠d)
end L2
namespace L2
open PySem PySem.Spec PyProof.Rows
structure Mod (K:PySem.W.Frag) (mg:Str→Option Value) (base:Heap):Prop where
 YF:K.In base
 glob:base.Ns mainGlobals mg
 blt:∃mb,base.Ns builtinsNs mb∧∀x:Str,x≠"__name__"→mb x=bootBuiltins x
 nolimit:base.NoLimit
structure Cx where
 prog:Program
 w:World
 K:PySem.W.Frag
 mg:Str→Option Value
 base:Heap
 A:Around
 N:List Str
 s₀:Shared
 H₀:Hp
 env:Env
 outer:List Env
 stack:List Env
 ex:List Addr
 fn:Str→Bool
 calm:Bool
 pn:List (Addr×Obj)
 xe:Value→Shared→Prop
noncomputable def frs (l:List Env):List Addr:=l.filterMap (·.frame)
noncomputable abbrev Cx.fs (X:Cx):List Addr:=frs X.outer
noncomputable def X5 (sc:Scope) (x:Str):Prop:=sc.names.lookup x=some .local∨sc.names.lookup x=some .cell∨sc.names.lookup x=some .free
noncomputable def Loc (sc:Scope) (x:Str):Prop:=sc.names.lookup x=some .local∨sc.names.lookup x=some .cell
noncomputable def Look (env:Env) (h:Heap) (m:Str→Option Value) (x:Str) (u:Value):Prop:=
 (env.kindOf x=some .local∧m x=some u)∨((env.kindOf x=some .cell∨env.kindOf x=some .free)∧∃c,env.cells.lookup x=some c∧h.IsCell c (some u))
structure Cx.Ok (X:Cx):Prop where
 mod:Mod X.K X.mg X.base
 kind:X.env.scope.kind=.function
 glob:X.env.globals=mainGlobals
 blt:X.env.builtins=builtinsNs
 above:X.s₀.heap.objs.size≤X.env.locals
 inj:∀x y c,X.env.cells.lookup x=some c→X.env.cells.lookup y=some c→x=y
 has:∀x,(X.env.kindOf x=some .cell∨X.env.kindOf x=some .free)→∃c,X.env.cells.lookup x=some c
 cab:∀x c,X.fn x=true→X.env.cells.lookup x=some c→X.s₀.heap.objs.size≤c
 hd:X.calm=true→X.A.handled=none
 frames:X.A.frames=some X.stack
 stk:X.stack=X.outer∨(X.stack=X.env::X.outer∧X.env.frame=some X.env.locals)
 exf:∀b∈X.ex,b≠X.env.locals∧∀x c,X.env.cells.lookup x=some c→c≠b
 bs:∀b o,X.base.get? b=some o→X.s₀.heap.get? b=some o∧X.H₀ b=none
 Ox:X.base.objs.size≤X.s₀.heap.objs.size
 Kh:∀b o,X.base.get? b=some o→b∉X.ex
 O4:∀b∈X.ex,b∉X.fs
 sX:X.s₀.heap.FunFrames X.base X.outer
 SM:∀b∈X.fs,X.H₀ b=none
structure Inv (X:Cx) (pins:List (Addr×Obj)) (σ:List (Option V)) (H:Hp) (s:Shared):Prop where
 ok:X.Ok
 os:s.os=X.s₀.os
 bare:AllBare s.gens
 base:Un X.fs X.ex X.H₀ H X.s₀.heap s.heap
 loc:∃m,s.heap.Ns X.env.locals m∧∀(i:Nat) (x:Str) (v:V),X.N[i]?=some x→σ[i]?=some (some v)→X5 X.env.scope x→∃u,RelV v u∧Look X.env s.heap m x u
 cell:∀x c,X.env.cells.lookup x=some c→∃v,s.heap.IsCell c v
 free:H X.env.locals=none
 mQ:∀x c,X.env.cells.lookup x=some c→H c=none
 pin:∀p∈X.pn++pins,s.heap.get? p.1=some p.2∧H p.1=none∧p.1≠X.env.locals∧p.1∉X.fs∧∀v,p.2.data≠.cell v
 hok:pQ X.prog X.w H s.heap
 len:σ.length=X.N.length
section
variable {X:Cx} {pins:List (Addr×Obj)} {σ:List (Option V)} {H H':Hp} {s:Shared} {h':Heap}
theorem Cx.Ok.YG (ok:X.Ok) {b:Addr} {o:Obj} (e:X.base.get? b=some o):b∉X.fs:=fun hb=>by
 have:=(ok.sX.mem hb).1
 rw [e] at this; cases this
theorem Inv.bs (I:Inv X pins σ H s):∀b o,X.base.get? b=some o→s.heap.get? b=some o∧H b=none:=fun b o e=>
 ⟨I.base.keep b o (I.ok.bs b o e).1 (I.ok.bs b o e).2 (I.ok.YG e) (I.ok.Kh b o e),I.base.free b o (I.ok.bs b o e).1 (I.ok.bs b o e).2 (I.ok.Kh b o e)⟩
theorem Inv.bk (I:Inv X pins σ H s):∀b o,X.base.get? b=some o→s.heap.get? b=some o:=fun b o e=>(I.bs b o e).1
theorem Inv.mod (I:Inv X pins σ H s):Mod X.K X.mg X.base:=I.ok.mod
theorem Inv.qW (I:Inv X pins σ H s):X.K.In s.heap:=I.ok.mod.YF.keeps I.bk
theorem Inv.nolimit (I:Inv X pins σ H s):s.heap.NoLimit:=I.ok.mod.nolimit.keeps I.bk
theorem Inv.fr (I:Inv X pins σ H s):∃m,Fr X.base X.env.locals s.heap m:=
 let ⟨m,hn,_⟩:=I.loc
 ⟨m,hn,I.bk,Nat.le_trans I.ok.Ox I.ok.above⟩
theorem Inv.lt (I:Inv X pins σ H s):X.env.locals < s.heap.objs.size:=let ⟨_,hn,_⟩:=I.loc; hn.lt
theorem Inv.sz (I:Inv X pins σ H s):X.s₀.heap.objs.size≤s.heap.objs.size:=Nat.le_trans I.ok.above (Nat.le_of_lt I.lt)
theorem Inv.YH (I:Inv X pins σ H s) {a:Addr} (h:s.heap.objs.size≤a):a∉X.fs:=fun hb=>by
 obtain ⟨_,o,ho,_⟩:=I.ok.sX.mem hb
 exact absurd (Nat.lt_of_lt_of_le (Heap.lt_size ho) (Nat.le_trans I.sz h)) (Nat.lt_irrefl _)
theorem Inv.SN (I:Inv X pins σ H s):∀x c,X.env.cells.lookup x=some c→c≠X.env.locals:=fun x c e z=>by
 obtain ⟨v,o,ho,hd⟩:=I.cell x c e
 obtain ⟨m,⟨o',es,ep,ho',hd',_⟩,_⟩:=I.loc
 rw [z,ho'] at ho; cases ho; rw [hd'] at hd; cases hd
theorem Inv.sX (I:Inv X pins σ H s):s.heap.FunFrames X.base X.outer:=by
 have all:∀(l:List Env),(∀b∈frs l,b∈X.fs)→X.s₀.heap.FunFrames X.base l→s.heap.FunFrames X.base l:=by
  intro l
  induction l with
  | nil=>intro _ _; trivial
  | cons env r ih=>
   intro hs hl
   obtain ⟨hk,⟨L,o,hf,hn,ho,hd⟩,hr⟩:=hl
   have hL:L∈X.fs:=hs L (by unfold frs; rw [List.filterMap_cons,hf]; exact List.mem_cons_self)
   obtain ⟨sl,e⟩:=I.base.slot L o ho (I.ok.SM L hL) hL fun z=>I.ok.O4 L z hL
   exact ⟨hk,⟨L,_,hf,hn,e,hd⟩,ih (fun b hb=>hs b (by unfold frs; rw [List.filterMap_cons,hf]; exact List.mem_cons_of_mem _ hb)) hr⟩
 exact all X.outer (fun _ hb=>hb) I.ok.sX
theorem Inv.stack (I:Inv X pins σ H s):s.heap.FunFrames X.base X.stack:=by
 rcases I.ok.stk with e | ⟨e,hf⟩
 ·rw [e]; exact I.sX
 ·rw [e]
  obtain ⟨m,hn,_⟩:=I.loc
  refine .cons (by rw [I.ok.kind]; decide) hf hn ?_ I.sX
  exact Heap.get?_none_of_le (Nat.le_trans I.ok.Ox I.ok.above)
theorem Inv.qZ (I:Inv X pins σ H s):∀b∈frs X.stack,b∈X.env.locals::X.fs:=fun b hb=>by
 rcases I.ok.stk with e | ⟨e,hf⟩
 ·rw [e] at hb; exact List.mem_cons_of_mem _ hb
 ·rw [e] at hb
  unfold frs at hb
  rw [List.filterMap_cons,hf] at hb
  exact hb
theorem Inv.Gp (I:Inv X pins σ H s):∀b∈frs X.stack,H b=none:=fun b hb=>by
 rcases List.mem_cons.mp (I.qZ b hb) with e | hb
 ·rw [e]; exact I.free
 ·obtain ⟨_,o,ho,_⟩:=I.ok.sX.mem hb
  exact I.base.free b o ho (I.ok.SM b hb) fun z=>I.ok.O4 b z hb
theorem Inv.step {g':Array GenState} {t':Nat} {d':Drawn} {ch:List Addr} (I:Inv X pins σ H s)
  (hch:∀b∈ch,(b∈X.ex∨X.s₀.heap.objs.size≤b)∧b≠X.env.locals∧(∀x c,X.env.cells.lookup x=some c→c≠b)∧∀p∈X.pn++pins,p.1≠b)
  (keep:∀b o,b≠X.env.locals→b∉X.fs→b∉ch→s.heap.get? b=some o→H b=none→h'.get? b=some o)
  (slot:∀b o,b≠X.env.locals→b∈X.fs→b∉ch→s.heap.get? b=some o→H b=none→∃sl,h'.get? b=some { o with slots:=sl }) (free:∀b o,b∉ch→s.heap.get? b=some o→H b=none→H' b=none)
  (there:∀b o,b∉ch→s.heap.get? b=some o→∃o',h'.get? b=some o')
  (tups:∀b xs,H b=some (.tup xs)→H' b=some (.tup xs)) (qY:∀b o u,H b=some (.Ad o u)→H' b=some (.Ad o u)) (sW:∀b ps,H b=some (.Sy ps)→∃more,H' b=some (.Sy (ps++more)))
  (ns:∀m,s.heap.Ns X.env.locals m→h'.Ns X.env.locals m) (hok:pQ X.prog X.w H' h') (hg:AllBare g'):
  Inv X pins σ H' { s with heap:=h',gens:=g',drawn:=d',toks:=t' }:=by
 have neL:∀b o,X.s₀.heap.get? b=some o→b≠X.env.locals:=fun b o e=>Nat.ne_of_lt (Nat.lt_of_lt_of_le (Heap.lt_size e) I.ok.above)
 have X6:∀b o,X.s₀.heap.get? b=some o→b∉X.ex→b∉ch:=fun b o e hx hb=>by
  rcases (hch b hb).1 with z | z
  ·exact hx z
  ·exact absurd (Nat.lt_of_lt_of_le (Heap.lt_size e) z) (Nat.lt_irrefl _)
 have cellK:∀x c,X.env.cells.lookup x=some c→∀v,s.heap.IsCell c v→h'.IsCell c v:=fun x c e v aP=>by
  obtain ⟨o,ho,hd⟩:=aP
  have VN:c∉ch:=fun z=>(hch c z).2.2.1 x c e rfl
  by_cases hc:c∈X.fs
  ·obtain ⟨sl,q⟩:=slot c o (I.SN x c e) hc VN ho (I.mQ x c e)
   exact ⟨_,q,hd⟩
  ·exact ⟨o,keep c o (I.SN x c e) hc VN ho (I.mQ x c e),hd⟩
 refine ⟨I.ok,I.os,hg,⟨fun b o e n hb hx=>?_,fun b o e n hb hx=>?_,fun b o e n hx=>?_,fun b o e hx=>?_,fun b xs e=>tups b xs (I.base.tups b xs e),fun b o xs e=>qY b o xs (I.base.qY b o xs e),fun b ps e=>?_⟩,?_,fun x c e=>?_,?_,fun x c e=>?_,fun p hp=>?_,hok,I.len⟩
 ·exact keep b o (neL b o e) hb (X6 b o e hx) (I.base.keep b o e n hb hx) (I.base.free b o e n hx)
 ·obtain ⟨sl,e1⟩:=I.base.slot b o e n hb hx
  obtain ⟨sl',e2⟩:=slot b _ (neL b o e) hb (X6 b o e hx) e1 (I.base.free b o e n hx)
  exact ⟨sl',e2⟩
 ·obtain ⟨o',e1⟩:=I.base.there b o e hx
  exact free b o' (X6 b o e hx) e1 (I.base.free b o e n hx)
 ·obtain ⟨o',e1⟩:=I.base.there b o e hx
  exact there b o' (X6 b o e hx) e1
 ·obtain ⟨m1,e1⟩:=I.base.sW b ps e
  obtain ⟨m2,e2⟩:=sW b _ e1
  exact ⟨m1++m2,by rw [e2,Array.append_assoc]⟩
 ·obtain ⟨m,hn,hl⟩:=I.loc
  refine ⟨m,ns m hn,fun i x v e1 e2 e3=>?_⟩
  obtain ⟨u,r,l⟩:=hl i x v e1 e2 e3
  refine ⟨u,r,?_⟩
  rcases l with l | ⟨k,c,e,z⟩
  ·exact .inl l
  ·exact .inr ⟨k,c,e,cellK x c e _ z⟩
 ·obtain ⟨v,z⟩:=I.cell x c e
  exact ⟨v,cellK x c e v z⟩
 ·obtain ⟨m,⟨o,_,_,ho,_⟩,_⟩:=I.loc
  exact free _ o (fun z=>(hch _ z).2.1 rfl) ho I.free
 ·obtain ⟨v,o,ho,hd⟩:=I.cell x c e
  exact free c o (fun z=>(hch c z).2.2.1 x c e rfl) ho (I.mQ x c e)
 ·obtain ⟨e,n,ne,nf,d⟩:=I.pin p hp
  have VN:p.1∉ch:=fun z=>(hch p.1 z).2.2.2 p hp rfl
  exact ⟨keep p.1 p.2 ne nf VN e n,free p.1 p.2 VN e n,ne,nf,d⟩
theorem Inv.un {t':Nat} (I:Inv X pins σ H s) (u:Un X.fs [] H H' s.heap h') (hok:pQ X.prog X.w H' h'):Inv X pins σ H' { s with heap:=h',toks:=t' }:=by
 obtain ⟨m,⟨o,es,ep,ho,r⟩,_⟩:=id I.loc
 obtain ⟨sl,hL⟩:=u.any ho I.free (by simp)
 exact I.step (g':=s.gens) (d':=s.drawn) (ch:=[]) (fun _ z=>nomatch z) (fun b o _ hb _ e n=>u.keep b o e n hb (by simp)) (fun b o _ hb _ e n=>u.slot b o e n hb (by simp)) (fun b o _ e n=>u.free b o e n (by simp)) (fun b o _ e=>u.there b o e (by simp)) u.tups u.qY u.sW (fun m' hm=>by
  obtain ⟨o',es',ep',ho',r'⟩:=hm
  rw [ho] at ho'; cases ho'
  exact ⟨_,es',ep',hL,r'⟩) hok I.bare
theorem Inv.call {g':Array GenState} {t':Nat} {d':Drawn} {ch:List Addr} (I:Inv X pins σ H s) (u:Un (frs X.stack) ch H H' s.heap h') (hok:pQ X.prog X.w H' h') (hg:AllBare g')
  (hch:∀b∈ch,(b∈X.ex∨X.s₀.heap.objs.size≤b)∧b≠X.env.locals∧(∀x c,X.env.cells.lookup x=some c→c≠b)∧∀p∈X.pn++pins,p.1≠b):
  Inv X pins σ H' { s with heap:=h',gens:=g',drawn:=d',toks:=t' }:=by
 obtain ⟨m,⟨o,es,ep,ho,r⟩,_⟩:=id I.loc
 obtain ⟨sl,hL⟩:=u.any ho I.free fun z=>(hch _ z).2.1 rfl
 exact I.step (ch:=ch) hch (fun b o hL hb hc e n=>u.keep b o e n (fun z=>(List.mem_cons.mp (I.qZ b z)).elim hL hb) hc) (fun b o _ _ hc e n=>u.any e n hc) (fun b o hc e n=>u.free b o e n hc) (fun b o hc e=>u.there b o e hc) u.tups u.qY u.sW (fun m' hm=>by
  obtain ⟨o',es',ep',ho',r'⟩:=hm
  rw [ho] at ho'; cases ho'
  exact ⟨_,es',ep',hL,r'⟩) hok hg
theorem Inv.turned {t':Nat} {it:Addr} (I:Inv X pins σ H s) (k:∀b o,b≠it→s.heap.get? b=some o→h'.get? b=some o) (hn:H it=none) (hL:it≠X.env.locals)
  (h1:it∈X.ex∨X.s₀.heap.objs.size≤it) (h2:∀x c,X.env.cells.lookup x=some c→c≠it) (h3:∀p∈X.pn++pins,p.1≠it):Inv X pins σ H { s with heap:=h',toks:=t' }:=by
 have VP:∀b u,H b=some u→b≠it:=fun b u e z=>by rw [z,hn] at e; cases e
 refine I.step (g':=s.gens) (d':=s.drawn) (ch:=[it]) (fun b hb=>?_) (fun b o _ _ hc e _=>k b o (fun z=>hc (by simp [z])) e) (fun b o _ _ hc e _=>⟨o.slots,k b o (fun z=>hc (by simp [z])) e⟩) (fun _ _ _ _ n=>n)
  (fun b o hc e=>⟨o,k b o (fun z=>hc (by simp [z])) e⟩) (fun _ _ e=>e) (fun _ _ _ e=>e) (fun b ps e=>⟨#[],by rw [e]; simp⟩) (fun m hm=>?_) (fun b u e=>?_) I.bare
 ·have e:b=it:=by simpa using hb
  subst e
  exact ⟨h1,hL,h2,h3⟩
 ·obtain ⟨o,es,ep,ho,r⟩:=hm
  exact ⟨o,es,ep,k _ o (Ne.symm hL) ho,r⟩
 ·refine (I.hok b u e).stay (fun c v hc q=>k c v ?_ q) (fun _ q=>q) fun _ _ q=>q
  rcases hc with z | z
  ·rw [z]; exact VP b u e
  ·exact VP c _ z
theorem Inv.tok (I:Inv X pins σ H s) (t:Nat):Inv X pins σ H { s with toks:=t }:=I.un (h':=s.heap) (t':=t) Un.refl I.hok
theorem Inv.kept {t':Nat} (I:Inv X pins σ H s) (k:∀b u,s.heap.get? b=some u→h'.get? b=some u):Inv X pins σ H { s with heap:=h',toks:=t' }:=I.un (Un.kept k) (I.hok.kept k)
theorem Inv.laid {a:Addr} {o:HO} {t':Nat} (I:Inv X pins σ H s) (k:∀b u,s.heap.get? b=some u→h'.get? b=some u) (hp:s.heap.objs.size≤a) (new:bW X.prog X.w (upd H a o) h' a o):
  Inv X pins σ (upd H a o) { s with heap:=h',toks:=t' }:=I.un (Un.laid k hp (I.hok.fresh hp)) (I.hok.laid k hp new)
theorem Inv.write {x e:Addr} {o:HO} {t':Nat} (I:Inv X pins σ H s) (mu:VL (H x)) (he:e=x∨H e=some (.own x)) (k:∀b u,b≠e→s.heap.get? b=some u→h'.get? b=some u) (heo:∃u,h'.get? e=some u)
  (new:bW X.prog X.w (upd H x o) h' x o):Inv X pins σ (upd H x o) { s with heap:=h',toks:=t' }:=I.un (Un.write mu he k heo) (I.hok.write mu he k heo new)
theorem Inv.weak {σ':List (Option V)} (I:Inv X pins σ H s) (hl:σ'.length=σ.length) (w:∀(i:Nat) v,σ'[i]?=some (some v)→σ[i]?=some (some v)):Inv X pins σ' H s:=
 ⟨I.ok,I.os,I.bare,I.base,let ⟨m,hn,hl'⟩:=I.loc; ⟨m,hn,fun i x v e1 e2 e3=>hl' i x v e1 (w i v e2) e3⟩,I.cell,I.free,I.mQ,I.pin,I.hok,hl.trans I.len⟩
theorem Inv.Gq {Gr:List (Addr×Obj)} (I:Inv X pins σ H s) (h:∀p∈Gr,s.heap.get? p.1=some p.2∧H p.1=none∧p.1≠X.env.locals∧p.1∉X.fs∧∀v,p.2.data≠.cell v):Inv X Gr σ H s:=
 ⟨I.ok,I.os,I.bare,I.base,I.loc,I.cell,I.free,I.mQ,fun p hp=>(List.mem_append.mp hp).elim (fun z=>I.pin p (List.mem_append_left _ z)) (h p),I.hok,I.len⟩
theorem Ah {N:List Str} (hN:N.Nodup) {i j:Nat} {x:Str} (a:N[i]?=some x) (b:N[j]?=some x):i=j:=by
 obtain ⟨h1,e1⟩:=List.getElem?_eq_some_iff.mp a
 obtain ⟨h2,e2⟩:=List.getElem?_eq_some_iff.mp b
 exact (List.getElem_inj hN).mp (e1.trans e2.symm)
theorem q9 {M:Model} {A:Around} {E:Value→Shared→Prop} {i:Nat} {x:Str} {v:V} {u:Value} {Q:Unit→Shared→Prop} (I:Inv X pins σ H s) (hN:X.N.Nodup) (hi:X.N[i]?=some x) (hx:Loc X.env.scope x) (r:RelV v u)
  (h:∀s',Inv X pins (σ.set i (some v)) H s'→(∃a,Heap.SameBut a s.heap s'.heap∧(a=X.env.locals∨X.env.cells.lookup x=some a))→Q () s') (hf:X.fn x=true∨X.env.scope.names.lookup x=some .local:=by first | exact .inl rfl | exact .inr rfl | assumption):wpAny M A (storeName X.env x u) Q E s:=by
 obtain ⟨m,hn,hl⟩:=id I.loc
 have hcls:(X.env.scope.kind==.class || (X.env.scope.kind==.module&&X.env.locals != X.env.globals))=false:=by rw [I.ok.kind]; rfl
 have hiσ:i < σ.length:=by rw [I.len]; exact (List.getElem?_eq_some_iff.mp hi).1
 have SN:=I.SN
 have tracked:∀{a:Addr} {h':Heap},(∃o,s.heap.get? a=some o∧H a=none)→Heap.SameBut a s.heap h'→pQ X.prog X.w H h':=fun {a h'} ha hs b ob e=>by
  obtain ⟨_,_,hfree⟩:=ha
  refine (I.hok b ob e).stay (fun c w' hc q=>(hs.2 c ?_).trans q) (fun _ q=>q) fun _ _ q=>q
  rintro rfl
  rcases hc with rfl | hc
  ·rw [hfree] at e; cases e
  ·rw [hfree] at hc; cases hc
 rcases hx with hk | hk
 ·refine wpAny_storeName_local hk hn (fun h' hn' hs=>?_) hcls
  obtain ⟨oL,_,_,hoL,_⟩:=id hn
  refine h _ ⟨I.ok,I.os,I.bare,⟨fun b o e n hb hx=>?_,fun b o e n hb hx=>?_,I.base.free,fun b o e hx=>?_,I.base.tups,I.base.qY,I.base.sW⟩,⟨_,hn',fun j y v' e1 e2 e3=>?_⟩,fun y c e=>?_,I.free,I.mQ,fun p hp=>?_,tracked ⟨oL,hoL,I.free⟩ hs,by simpa using I.len⟩ ⟨_,hs,.inl rfl⟩
  ·exact (hs.2 b (Nat.ne_of_lt (Nat.lt_of_lt_of_le (Heap.lt_size e) I.ok.above))).trans (I.base.keep b o e n hb hx)
  ·obtain ⟨sl,e1⟩:=I.base.slot b o e n hb hx
   exact ⟨sl,(hs.2 b (Nat.ne_of_lt (Nat.lt_of_lt_of_le (Heap.lt_size e) I.ok.above))).trans e1⟩
  ·obtain ⟨o',e1⟩:=I.base.there b o e hx
   exact ⟨o',(hs.2 b (Nat.ne_of_lt (Nat.lt_of_lt_of_le (Heap.lt_size e) I.ok.above))).trans e1⟩
  ·by_cases hj:j=i
   ·subst hj
    rw [hi] at e1; cases e1
    rw [List.getElem?_set_self hiσ] at e2
    cases e2
    exact ⟨u,r,.inl ⟨hk,by simp⟩⟩
   ·rw [List.getElem?_set_ne (Ne.symm hj)] at e2
    obtain ⟨u',r',q⟩:=hl j y v' e1 e2 e3
    refine ⟨u',r',?_⟩
    rcases q with ⟨k,e⟩ | ⟨k,c,e,z⟩
    ·refine .inl ⟨k,?_⟩
     have:y≠x:=fun e=>hj (Ah hN e1 (e ▸ hi))
     simp [this,e]
    ·exact .inr ⟨k,c,e,z.sameBut hs (SN y c e)⟩
  ·obtain ⟨w',z⟩:=I.cell y c e
   exact ⟨w',z.sameBut hs (SN y c e)⟩
  ·obtain ⟨e,n,ne,nf,d⟩:=I.pin p hp
   exact ⟨(hs.2 p.1 ne).trans e,n,ne,nf,d⟩
 ·have hfn:X.fn x=true:=by
   rcases hf with z | z
   ·exact z
   ·rw [z] at hk; cases hk
  obtain ⟨c,hc⟩:=I.ok.has x (.inl hk)
  obtain ⟨w',z⟩:=I.cell x c hc
  refine wpAny_storeName_cell I.ok.kind hk hc z (fun h' hc' hs=>?_)
  obtain ⟨oc,hoc,YJ⟩:=id z
  refine h { s with heap:=h' } ⟨I.ok,I.os,I.bare,⟨fun b o e n hb hx=>?_,fun b o e n hb hx=>?_,I.base.free,fun b o e hx=>?_,I.base.tups,I.base.qY,I.base.sW⟩,⟨m,hn.sameBut hs (Ne.symm (SN x c hc)),fun j y v' e1 e2 e3=>?_⟩,fun y c' e=>?_,I.free,I.mQ,fun p hp=>?_,tracked ⟨oc,hoc,I.mQ x c hc⟩ hs,by simpa using I.len⟩ ⟨c,hs,.inr hc⟩
  ·exact (hs.2 b (Nat.ne_of_lt (Nat.lt_of_lt_of_le (Heap.lt_size e) (I.ok.cab x c hfn hc)))).trans (I.base.keep b o e n hb hx)
  ·obtain ⟨sl,e1⟩:=I.base.slot b o e n hb hx
   exact ⟨sl,(hs.2 b (Nat.ne_of_lt (Nat.lt_of_lt_of_le (Heap.lt_size e) (I.ok.cab x c hfn hc)))).trans e1⟩
  ·obtain ⟨o',e1⟩:=I.base.there b o e hx
   exact ⟨o',(hs.2 b (Nat.ne_of_lt (Nat.lt_of_lt_of_le (Heap.lt_size e) (I.ok.cab x c hfn hc)))).trans e1⟩
  ·by_cases hj:j=i
   ·subst hj
    rw [hi] at e1; cases e1
    rw [List.getElem?_set_self hiσ] at e2
    cases e2
    exact ⟨u,r,.inr ⟨.inl hk,c,hc,hc'⟩⟩
   ·rw [List.getElem?_set_ne (Ne.symm hj)] at e2
    obtain ⟨u',r',q⟩:=hl j y v' e1 e2 e3
    refine ⟨u',r',?_⟩
    rcases q with q | ⟨k,c',e,z'⟩
    ·exact .inl q
    ·refine .inr ⟨k,c',e,z'.sameBut hs ?_⟩
     rintro rfl
     exact hj (Ah hN e1 (I.ok.inj _ _ _ e hc ▸ hi))
  ·by_cases hcc:c'=c
   ·subst hcc; exact ⟨_,hc'⟩
   ·obtain ⟨w2,z2⟩:=I.cell y c' e
    exact ⟨w2,z2.sameBut hs hcc⟩
  ·obtain ⟨e,n,ne,nf,d⟩:=I.pin p hp
   refine ⟨(hs.2 p.1 ?_).trans e,n,ne,nf,d⟩
   intro q
   rw [q,hoc] at e
   have q':oc=p.2:=Option.some.inj e
   exact d w' (by rw [←q']; exact YJ)
theorem iK {M:Model} {A:Around} {E:Value→Shared→Prop} {i:Nat} {x:Str} {v:V} {u:Value} {Q:Unit→Shared→Prop} (I:Inv X pins σ H s) (hN:X.N.Nodup) (hi:X.N[i]?=some x) (hx:Loc X.env.scope x) (r:RelV v u)
  (h:∀s',Inv X pins (σ.set i (some v)) H s'→Q () s') (hf:X.fn x=true∨X.env.scope.names.lookup x=some .local:=by first | exact .inl rfl | exact .inr rfl | assumption):wpAny M A (storeName X.env x u) Q E s:=
 q9 I hN hi hx r (fun s' I' _=>h s' I') hf
theorem Inv.call' {s':Shared} {ch:List Addr} (I:Inv X pins σ H s) (ho:s'.os=s.os) (u:Un (frs X.stack) ch H H' s.heap s'.heap) (hok:pQ X.prog X.w H' s'.heap) (hg:AllBare s'.gens)
  (hch:∀b∈ch,(b∈X.ex∨X.s₀.heap.objs.size≤b)∧b≠X.env.locals∧(∀x c,X.env.cells.lookup x=some c→c≠b)∧∀p∈X.pn++pins,p.1≠b):Inv X pins σ H' s':=by
 obtain ⟨h',g',d',t',o'⟩:=s'
 have e:o'=s.os:=ho
 subst e
 exact I.call (g':=g') (t':=t') (d':=d') u hok hg hch
end
noncomputable abbrev XK:=Value→Option Addr→Hp→Prop
noncomputable abbrev St:=List (Option V)
noncomputable abbrev VK:=V→Hp→Prop
noncomputable abbrev TE:=St→Hp→VK→Prop
noncomputable abbrev TT:=St→Hp→(Bool→Hp→Prop)→Prop
noncomputable abbrev TA:=St→Hp→(List V→Hp→Prop)→Prop
structure Ends where
 nx:St→Hp→Prop
 rt:VK
 bk:St→Hp→Prop:=fun _ _=>False
 ct:St→Hp→Prop:=fun _ _=>False
noncomputable abbrev TS:=Ends→St→Hp→Prop
noncomputable def EP (X:Cx) (pins:List (Addr×Obj)) (σ:St) (Q:VK) (u:Value) (s':Shared):Prop:=∃v H',Inv X pins σ H' s'∧RelV v u∧Q v H'
noncomputable def TP (X:Cx) (pins:List (Addr×Obj)) (σ:St) (Q:Bool→Hp→Prop) (b:Bool) (s':Shared):Prop:=∃H',Inv X pins σ H' s'∧Q b H'
noncomputable def AP (X:Cx) (pins:List (Addr×Obj)) (σ:St) (Q:List V→Hp→Prop) (us:List Value) (s':Shared):Prop:=∃vs H',Inv X pins σ H' s'∧Vals vs us∧Q vs H'
noncomputable def SP (X:Cx) (pins:List (Addr×Obj)) (D:Ends) (f:Flow) (s':Shared):Prop:=
 match f with
 | .next=>∃σ' H',Inv X pins σ' H' s'∧D.nx σ' H'
 | .brk=>∃σ' H',Inv X pins σ' H' s'∧D.bk σ' H'
 | .cont=>∃σ' H',Inv X pins σ' H' s'∧D.ct σ' H'
 | .ret u=>∃v σ' H',Inv X pins σ' H' s'∧RelV v u∧D.rt v H'
noncomputable def PE (X:Cx) (e:Expr) (t:TE):Prop:=
 ∀(pins:List (Addr×Obj)) (s:Shared) (σ:St) (H:Hp) (Q:VK),Inv X pins σ H s→t σ H Q→wpAny (model X.prog X.w) X.A (eval e X.env) (EP X pins σ Q) X.xe s
noncomputable def PT (X:Cx) (e:Expr) (t:TT):Prop:=
 ∀(pins:List (Addr×Obj)) (s:Shared) (σ:St) (H:Hp) (Q:Bool→Hp→Prop),Inv X pins σ H s→t σ H Q→wpAny (model X.prog X.w) X.A (isTrue e X.env (eval e X.env)) (TP X pins σ Q) X.xe s
noncomputable def PW (X:Cx) (e:Expr) (t:TT):Prop:=
 ∀(whole:Sem Value) (pins:List (Addr×Obj)) (s:Shared) (σ:St) (H:Hp) (Q:Bool→Hp→Prop),Inv X pins σ H s→t σ H Q→wpAny (model X.prog X.w) X.A (isTrue e X.env whole) (TP X pins σ Q) X.xe s
theorem PW.pt {X:Cx} {e:Expr} {t:TT} (h:PW X e t):PT X e t:=h _
noncomputable def PA (X:Cx) (es:List Expr) (t:TA):Prop:=
 ∀(pos:Pos) (pins:List (Addr×Obj)) (s:Shared) (σ:St) (H:Hp) (Q:List V→Hp→Prop),Inv X pins σ H s→t σ H Q→wpAny (model X.prog X.w) X.A (spliced (backTo pos (starEach es X.env))) (AP X pins σ Q) X.xe s
noncomputable def PS (X:Cx) (st:Stmt) (t:TS):Prop:=
 ∀(pins:List (Addr×Obj)) (s:Shared) (σ:St) (H:Hp) (D:Ends),Inv X pins σ H s→t D σ H→wpAny (model X.prog X.w) X.A (exec st X.env) (SP X pins D) X.xe s
noncomputable def sY (X:Cx) (st:List Stmt) (t:TS):Prop:=
 ∀(pins:List (Addr×Obj)) (s:Shared) (σ:St) (H:Hp) (D:Ends),Inv X pins σ H s→t D σ H→wpAny (model X.prog X.w) X.A (execs st X.env) (SP X pins D) X.xe s
theorem cI {α:Type} {t:Sem α} {Q Q':α→Shared→Prop} {M:Model} {A:Around} {E:Value→Shared→Prop} {s:Shared} (h:wpAny M A t Q E s) (hQ:∀a s,Q a s→Q' a s):wpAny M A t Q' E s:=wpAny_mono h hQ fun _ _ x=>x
end L2
namespace L2
open PySem PySem.Spec PyProof.Rows
section
variable {X:Cx}
noncomputable def uc (i:Nat):TE:=fun σ H Q=>∃v,σ[i]?=some (some v)∧Q v H
noncomputable def tC (v:V):TE:=fun _ H Q=>Q v H
theorem SQ {i:Nat} {x:Str} {pos:Pos} (hN:X.N[i]?=some x) (hv:X5 X.env.scope x) (hd:(x==("__debug__":Str))=false:=by decide) (hcd:(x==("__classdict__":Str))=false:=by decide):PE X (.Name x pos) (uc i):=by
 intro pins s σ H Q I h
 obtain ⟨v,e,h⟩:=h
 obtain ⟨m,hn,hl⟩:=I.loc
 obtain ⟨u,r,l⟩:=hl i x v hN e hv
 have fin:EP X pins σ Q u s:=⟨v,H,I,r,h⟩
 rcases l with ⟨hk,hm⟩ | ⟨hk,c,hc,hcell⟩
 ·exact wpAny_Name (wpAny_loadName_local I.ok.kind hk hn hm fin) hd
 ·rcases hk with hk | hk
  ·exact wpAny_Name (wpAny_loadName_cell I.ok.kind hk hc hcell fin) hd
  ·exact wpAny_Name (wpAny_loadName_free I.ok.kind hk hc hcell fin hcd) hd
theorem az {i j pos}:PE X (.Constant (.int i) j pos) (tC (.int i)):=fun _ _ _ H _ I h=>wpAny_Constant_int ⟨.int i,H,I.tok _,⟨_,rfl⟩,h⟩
theorem wU {b j pos}:PE X (.Constant (.bool b) j pos) (tC (.bl b)):=fun _ _ _ H _ I h=>Constant_bool ⟨.bl b,H,I,rfl,h⟩
theorem ud {j pos}:PE X (.Constant .none j pos) (tC .non):=fun _ _ _ H _ I h=>Constant_none ⟨.non,H,I,rfl,h⟩
theorem ue {x j pos}:PE X (.Constant (.str x) j pos) (tC (.str x)):=fun _ _ _ H _ I h=>Calls.Constant_str ⟨.str x,H,I.tok _,⟨_,rfl⟩,h⟩
noncomputable def Gl (X:Cx) (x:Str):Prop:=X.env.kindOf x=some .globalImplicit
theorem O5 {E:Value→Shared→Prop} {pins:List (Addr×Obj)} {s:Shared} {σ:St} {H:Hp} {x:Str} {u:Value} {pos:Pos} {Q:Value→Shared→Prop} (I:Inv X pins σ H s) (hg:Gl X x) (hm:X.mg x=some u) (h:Q u s)
  (hd:(x==("__debug__":Str))=false:=by decide):wpAny (model X.prog X.w) X.A (eval (.Name x pos) X.env) Q E s:=
 Calls.Name_function_global I.ok.kind hg (Calls.loadGlobal_global (by rw [I.ok.glob]; exact I.mod.glob.keeps I.bk) hm h) hd
theorem kE {E:Value→Shared→Prop} {pins:List (Addr×Obj)} {s:Shared} {σ:St} {H:Hp} {x:Str} {u:Value} {pos:Pos} {Q:Value→Shared→Prop} (I:Inv X pins σ H s) (hg:Gl X x) (hm:X.mg x=none) (hv:bootBuiltins x=some u) (h:Q u s)
  (hn:x≠"__name__":=by decide) (hd:(x==("__debug__":Str))=false:=by decide):wpAny (model X.prog X.w) X.A (eval (.Name x pos) X.env) Q E s:=by
 obtain ⟨mb,h1,h2⟩:=I.mod.blt
 exact Calls.Name_function_global I.ok.kind hg (Calls.loadGlobal_builtin (by rw [I.ok.glob]; exact I.mod.glob.keeps I.bk) hm (by rw [I.ok.blt]; exact h1.keeps I.bk) ((h2 x hn).trans hv) h) hd
theorem dN {x:Str} {v:V} {u:Value} {pos:Pos} (hg:Gl X x) (hm:X.mg x=none) (hv:bootBuiltins x=some u) (r:RelV v u) (hn:x≠"__name__":=by decide) (hd:(x==("__debug__":Str))=false:=by decide):PE X (.Name x pos) (tC v):=
 fun _ _ _ H _ I h=>kE I hg hm hv ⟨v,H,I,r,h⟩ hn hd
variable {a b:Expr} {ta tb:TE} {pos:Pos}
variable {tA X7:TT} {rest:List Expr}
noncomputable def VR (t u:TT):TT:=fun σ H Q=>t σ H fun c H1=>if c=true then u σ H1 Q else Q false H1
noncomputable def tOr (t u:TT):TT:=fun σ H Q=>t σ H fun c H1=>if c=true then Q true H1 else u σ H1 Q
noncomputable def YK (t:TT):TT:=fun σ H Q=>t σ H fun c H1=>Q (!c) H1
theorem pw_and1 (ha:PT X a tA):PW X (.BoolOp .And [a] pos) tA:=by
 intro wh pins s σ H Q I h
 refine isTrue_and (cI (ha pins s σ H Q I h) fun c s1 e=>?_)
 cases c with
 | true=>exact isTrue_and_nil e
 | false=>exact e
theorem pw_or1 (ha:PT X a tA):PW X (.BoolOp .Or [a] pos) tA:=by
 intro wh pins s σ H Q I h
 refine isTrue_or (cI (ha pins s σ H Q I h) fun c s1 e=>?_)
 cases c with
 | false=>exact isTrue_or_nil e
 | true=>exact e
theorem pw_and (ha:PT X a tA) (hb:PW X (.BoolOp .And (b::rest) pos) X7):PW X (.BoolOp .And (a::b::rest) pos) (VR tA X7):=by
 intro wh pins s σ H Q I h
 refine isTrue_and (cI (ha pins s σ H _ I h) fun c s1 aP=>?_)
 obtain ⟨H1,I1,q1⟩:=aP
 cases c with
 | true=>exact hb wh pins s1 σ H1 Q I1 q1
 | false=>exact ⟨H1,I1,q1⟩
theorem pw_or (ha:PT X a tA) (hb:PW X (.BoolOp .Or (b::rest) pos) X7):PW X (.BoolOp .Or (a::b::rest) pos) (tOr tA X7):=by
 intro wh pins s σ H Q I h
 refine isTrue_or (cI (ha pins s σ H _ I h) fun c s1 aP=>?_)
 obtain ⟨H1,I1,q1⟩:=aP
 cases c with
 | true=>exact ⟨H1,I1,q1⟩
 | false=>exact hb wh pins s1 σ H1 Q I1 q1
theorem SX (ha:PT X a tA):PT X (.UnaryOp .Not a pos) (YK tA):=by
 intro pins s σ H Q I h
 exact isTrue_not (ha pins s σ H (fun c H1=>Q (!c) H1) I h)
noncomputable def V0 (ta tb:TE):TE:=fun σ H Q=>ta σ H fun x H1=>∃c,x=.bl c∧if c=true then tb σ H1 Q else Q (.bl false) H1
noncomputable def V1 (ta:TE):TE:=fun σ H Q=>ta σ H fun x H1=>∃c,x=.bl c∧Q (.bl (!c)) H1
theorem S7 {op} {t:TE} (h:PE X a t):PE X (.BoolOp op [a] pos) t:=fun pins s σ H Q I hw=>BoolOp_one (h pins s σ H Q I hw)
theorem S8 (ha:PE X a ta) (hb:PE X (.BoolOp .And (b::rest) pos) tb):PE X (.BoolOp .And (a::b::rest) pos) (V0 ta tb):=by
 intro pins s σ H Q I h
 refine BoolOp_and (cI (ha pins s σ H _ I h) fun v s1 aP=>?_)
 obtain ⟨x,H1,I1,r1,q1⟩:=aP
 obtain ⟨c,rfl,q1⟩:=q1
 cases r1
 refine wpAny_truthy_bool ?_
 cases c with
 | true=>exact hb pins s1 σ H1 Q I1 q1
 | false=>exact ⟨.bl false,H1,I1,rfl,q1⟩
theorem S9 (ha:PE X a ta):PE X (.UnaryOp .Not a pos) (V1 ta):=by
 intro pins s σ H Q I h
 refine UnaryOp_ (cI (ha pins s σ H _ I h) fun v s1 aP=>?_)
 obtain ⟨x,H1,I1,r1,q1⟩:=aP
 obtain ⟨c,rfl,q1⟩:=q1
 cases r1
 exact not_of (wpAny_truthy_bool ⟨.bl (!c),H1,I1,rfl,q1⟩)
noncomputable def tIf (t:TT) (ta tb:TE):TE:=fun σ H Q=>t σ H fun c H1=>if c=true then ta σ H1 Q else tb σ H1 Q
theorem Kl {c:Expr} (hc:PT X c tA) (ha:PE X a ta) (hb:PE X b tb):PE X (.IfExp c a b pos) (tIf tA ta tb):=by
 intro pins s σ H Q I h
 refine wpAny_IfExp (cI (hc pins s σ H _ I h) fun d s1 aP=>?_)
 obtain ⟨H1,I1,q1⟩:=aP
 cases d with
 | true=>exact ha pins s1 σ H1 Q I1 q1
 | false=>exact hb pins s1 σ H1 Q I1 q1
end
end L2
namespace L2
open PySem PySem.Spec PyProof.Rows
noncomputable def cZ (K:PySem.W.Frag) (H:Hp) (a:Addr) (xs:List V):Prop:=
 Rd H a (.lst xs)∨
  ∃(o:Obj) (its:Array Value) (n:Nat),K.lookup a=some o∧o.cls=.type "list"∧o.dict=none∧o.data=.seq its n∧its.size≤sizeLine∧Vals xs its.toList
noncomputable def ig (K:PySem.W.Frag) (H:Hp) (a:Addr) (xs:List V):Prop:=
 Rd H a (.tup xs)∨
  ∃(o:Obj) (its:Array Value) (n:Nat),K.lookup a=some o∧o.cls=.type "tuple"∧o.data=.seq its n∧its.size≤sizeLine∧Vals xs its.toList
noncomputable def YL:Value→Option V
 | .none=>some .non
 | .bool b=>some (.bl b)
 | .int i _=>some (.int i)
 | .str x _=>some (.str x)
 | .bytes b _=>some (.Il b)
 | .float b _=>some (.flt b)
 | .ref a=>some (.ref a)
 | .type n=>some (.ty n)
 | _=>none
theorem RelV.abs {x:V} {u:Value} (r:RelV x u):YL u=some x:=by
 cases x with
 | non=>cases r; rfl
 | bl _=>cases r; rfl
 | int _=>obtain ⟨t,rfl⟩:=r; rfl
 | str _=>obtain ⟨t,rfl⟩:=r; rfl
 | Il _=>obtain ⟨t,rfl⟩:=r; rfl
 | flt _=>obtain ⟨t,rfl⟩:=r; rfl
 | ref _=>cases r; rfl
 | ty _=>cases r; rfl
theorem RelV.inj {x y:V} {u:Value} (r:RelV x u) (q:RelV y u):x=y:=Option.some.inj (r.abs.symm.trans q.abs)
theorem Vals.inj:∀{xs ys:List V} {us:List Value},Vals xs us→Vals ys us→xs=ys
 | _,_,_,.nil,.nil=>rfl
 | _,_,_,.cons r t,.cons r' t'=>by rw [r.inj r',Vals.inj t t']
section
variable {X:Cx} {pins:List (Addr×Obj)} {σ:St} {H:Hp} {s:Shared} {a:Addr} {xs ys:List V}
theorem cZ.of {K:PySem.W.Frag} (h:H a=some (.lst xs)):cZ K H a xs:=.inl (.inl h)
theorem ig.of {K:PySem.W.Frag} (h:H a=some (.tup xs)):ig K H a xs:=.inl (.inl h)
theorem Inv.list (I:Inv X pins σ H s) (h:cZ X.K H a xs):∃its:List Value,Vals xs its∧PlainL s.heap a its.toArray∧xs.length≤sizeLine:=by
 rcases h with h | ⟨o,its,n,hk,hc,hd,hs,hz,r⟩
 ·obtain ⟨z,its,n,r,e⟩:=h.ok I.hok
  exact ⟨its,r,⟨_,n,e,rfl,rfl,rfl⟩,z⟩
 ·refine ⟨its.toList,r,⟨o,n,I.qW a o hk,hc,hd,by simpa using hs⟩,?_⟩
  have e:=r.length
  simp only [Array.length_toList] at e
  omega
theorem Inv.tuple (I:Inv X pins σ H s) (h:ig X.K H a xs):∃its:List Value,Vals xs its∧IsTup s.heap a its.toArray∧xs.length≤sizeLine:=by
 rcases h with h | ⟨o,its,n,hk,hc,hs,hz,r⟩
 ·obtain ⟨z,its,r,p⟩:=h.ok I.hok
  exact ⟨its,r,p,z⟩
 ·refine ⟨its.toList,r,⟨o,I.qW a o hk,hc,n,by simpa using hs⟩,?_⟩
  have e:=r.length
  simp only [Array.length_toList] at e
  omega
theorem Inv.pR (I:Inv X pins σ H s) (h:cZ X.K H a xs) (h':cZ X.K H a ys):xs=ys:=by
 obtain ⟨its,r,⟨o,n,e,_,_,d⟩,_⟩:=I.list h
 obtain ⟨its',r',⟨o',n',e',_,_,d'⟩,_⟩:=I.list h'
 rw [e] at e'; cases e'
 rw [d] at d'
 injection d' with d1 _
 have:its=its':=by simpa using congrArg Array.toList d1
 subst this
 exact r.inj r'
theorem Inv.Io (I:Inv X pins σ H s) (h:ig X.K H a xs) (h':ig X.K H a ys):xs=ys:=by
 obtain ⟨its,r,⟨o,e,_,n,d⟩,_⟩:=I.tuple h
 obtain ⟨its',r',⟨o',e',_,n',d'⟩,_⟩:=I.tuple h'
 rw [e] at e'; cases e'
 rw [d] at d'
 injection d' with d1 _
 have:its=its':=by simpa using congrArg Array.toList d1
 subst this
 exact r.inj r'
end
noncomputable abbrev Cx.wish (X:Cx) (E:Value→Shared→Prop):Cx:={ X with xe:=E }
noncomputable abbrev Cx.O6 (X:Cx):Cx:=X.wish fun _ _=>False
theorem Cx.Ok.wish {X:Cx} (ok:X.Ok) (E:Value→Shared→Prop):(X.wish E).Ok:=
 ⟨ok.mod,ok.kind,ok.glob,ok.blt,ok.above,ok.inj,ok.has,ok.cab,ok.hd,ok.frames,ok.stk,ok.exf,ok.bs,ok.Ox,ok.Kh,ok.O4,ok.sX,ok.SM⟩
theorem Cx.Ok.jy {X:Cx} {E:Value→Shared→Prop} (ok:(X.wish E).Ok):X.Ok:=
 ⟨ok.mod,ok.kind,ok.glob,ok.blt,ok.above,ok.inj,ok.has,ok.cab,ok.hd,ok.frames,ok.stk,ok.exf,ok.bs,ok.Ox,ok.Kh,ok.O4,ok.sX,ok.SM⟩
section
variable {X:Cx} {pins:List (Addr×Obj)} {σ:St} {H:Hp} {s:Shared} {E:Value→Shared→Prop}
theorem Inv.wish (I:Inv X pins σ H s) (E:Value→Shared→Prop):Inv (X.wish E) pins σ H s:=⟨I.ok.wish E,I.os,I.bare,I.base,I.loc,I.cell,I.free,I.mQ,I.pin,I.hok,I.len⟩
theorem Inv.jy (I:Inv (X.wish E) pins σ H s):Inv X pins σ H s:=⟨I.ok.jy,I.os,I.bare,I.base,I.loc,I.cell,I.free,I.mQ,I.pin,I.hok,I.len⟩
theorem SP.jy {D:Ends} {f:Flow} {s':Shared} (h:SP (X.wish E) pins D f s'):SP X pins D f s':=by
 cases f with
 | next=>obtain ⟨σ',H',I,q⟩:=h; exact ⟨σ',H',I.jy,q⟩
 | brk=>obtain ⟨σ',H',I,q⟩:=h; exact ⟨σ',H',I.jy,q⟩
 | cont=>obtain ⟨σ',H',I,q⟩:=h; exact ⟨σ',H',I.jy,q⟩
 | ret u=>obtain ⟨v,σ',H',I,r,q⟩:=h; exact ⟨v,σ',H',I.jy,r,q⟩
theorem PE.O6 {e:Expr} {t:TE} (h:PE X.O6 e t):PE X e t:=fun pins s σ H Q I hw=>
 wpAny_mono (h pins s σ H Q (I.wish _) hw) (fun _ _ ⟨v,H',I',r,q⟩=>⟨v,H',I'.jy,r,q⟩) fun _ _ z=>False.elim z
theorem PT.O6 {e:Expr} {t:TT} (h:PT X.O6 e t):PT X e t:=fun pins s σ H Q I hw=>
 wpAny_mono (h pins s σ H Q (I.wish _) hw) (fun _ _ ⟨H',I',q⟩=>⟨H',I'.jy,q⟩) fun _ _ z=>False.elim z
theorem sY.O6 {st:List Stmt} {t:TS} (h:sY X.O6 st t):sY X st t:=fun pins s σ H D I hw=>
 wpAny_mono (h pins s σ H D (I.wish _) hw) (fun _ _ q=>q.jy) fun _ _ z=>False.elim z
end
section
variable {X:Cx} {st:Stmt} {rest:List Stmt} {t u:TS} {e:Expr} {te:TE} {pos:Pos}
noncomputable def V2:TS:=fun D σ H=>D.nx σ H
noncomputable def V3 (t u:TS):TS:=fun D σ H=>t { D with nx:=u D } σ H
theorem O7:sY X [] V2:=fun _ _ σ H _ I h=>wpAny_execs_nil ⟨σ,H,I,h⟩
theorem Km (h1:PS X st t) (h2:sY X rest u):sY X (st::rest) (V3 t u):=by
 intro pins s σ H D I h
 refine wpAny_execs_cons (cI (h1 pins s σ H { D with nx:=u D } I h) fun f s1 q=>?_)
 cases f with
 | next=>
  obtain ⟨σ',H',I',q⟩:=q
  exact h2 pins s1 σ' H' D I' q
 | ret v=>exact q
 | brk=>exact q
 | cont=>exact q
theorem O8 (h1:PS X st t):sY X [st] t:=by
 intro pins s σ H D I h
 refine wpAny_execs_cons (cI (h1 pins s σ H D I h) fun f s1 q=>?_)
 cases f with
 | next=>exact wpAny_execs_nil q
 | ret v=>exact q
 | brk=>exact q
 | cont=>exact q
theorem Inv.quiet {pins:List (Addr×Obj)} {σ:St} {H:Hp} {s:Shared} (I:Inv X pins σ H s):interactive X.env=false:=by simp [interactive,I.ok.kind]
noncomputable def V4 (te:TE):TS:=fun D σ H=>te σ H fun _ H1=>D.nx σ H1
theorem Gs (he:PE X e te) (hs:swapsWith e none pos.line X.env=pure false:=by rfl):PS X (.Expr e pos) (V4 te):=by
 intro pins s σ H D I h
 exact wpAny_Expr_any (cI (he pins s σ H _ I h) fun v s1 ⟨x,H1,I1,r1,q1⟩=>⟨σ,H1,I1,q1⟩) I.quiet hs
noncomputable def YM (te:TE):TS:=fun D σ H=>te σ H D.rt
theorem Ko (he:PE X e te):PS X (.Return (some e) pos) (YM te):=by
 intro pins s σ H D I h
 exact wpAny_Return_some (cI (he pins s σ H _ I h) fun v s1 ⟨x,H1,I1,r1,q1⟩=>⟨x,σ,H1,I1,r1,q1⟩)
noncomputable def YQ (c:TT) (t u:TS):TS:=fun D σ H=>c σ H fun b H1=>if b=true then t D σ H1 else u D σ H1
theorem V5 {c:Expr} {a b:List Stmt} {tc:TT} (hc:PT X c tc) (ha:sY X a t) (hb:sY X b u):PS X (.If c a b pos) (YQ tc t u):=by
 intro pins s σ H D I h
 refine wpAny_If (cI (hc pins s σ H _ I h) fun d s1 aP=>?_)
 obtain ⟨H1,I1,q1⟩:=aP
 cases d with
 | true=>exact ha pins s1 σ H1 D I1 q1
 | false=>exact hb pins s1 σ H1 D I1 q1
end
noncomputable abbrev TG:=V→St→Hp→(St→Hp→Prop)→Prop
noncomputable abbrev Kq:=List V→St→Hp→(St→Hp→Prop)→Prop
noncomputable def PG (X:Cx) (target:Expr) (t:TG):Prop:=
 ∀(pins:List (Addr×Obj)) (s:Shared) (σ:St) (H:Hp) (v:V) (u:Value) (Q:St→Hp→Prop),Inv X pins σ H s→RelV v u→t v σ H Q→
  wpAny (model X.prog X.w) X.A (assign target X.env u) (fun _ s'=>∃σ' H',Inv X pins σ' H' s'∧Q σ' H') X.xe s
noncomputable def X8 (X:Cx) (ts:List Expr) (t:Kq):Prop:=
 ∀(pins:List (Addr×Obj)) (s:Shared) (σ:St) (H:Hp) (vs:List V) (us:List Value) (Q:St→Hp→Prop),Inv X pins σ H s→Vals vs us→t vs σ H Q→
  wpAny (model X.prog X.w) X.A (assignInOrder ((assignEach ts X.env).map (·.2)) us) (fun _ s'=>∃σ' H',Inv X pins σ' H' s'∧Q σ' H') X.xe s
noncomputable abbrev O9:=V→V→V→Hp→(Hp→Prop)→Prop
noncomputable def yC (X:Cx) (t:O9):Prop:=
 ∀(pins:List (Addr×Obj)) (s:Shared) (σ:St) (H:Hp) (o i v:V) (ov iv u:Value) (Q:Hp→Prop),Inv X pins σ H s→RelV o ov→RelV i iv→RelV v u→t o i v H Q→
  wpAny (model X.prog X.w) X.A (setItem ov iv u) (fun _ s'=>∃H',Inv X pins σ H' s'∧Q H') X.xe s
noncomputable abbrev Yb:=V→V→Hp→VK→Prop
noncomputable def PIp (X:Cx) (op:Operator) (t:Yb):Prop:=
 ∀(pins:List (Addr×Obj)) (s:Shared) (σ:St) (H:Hp) (x y:V) (v u:Value) (Q:VK),Inv X pins σ H s→RelV x v→RelV y u→t x y H Q→
  wpAny (model X.prog X.w) X.A (inplaceOp op v u) (EP X pins σ Q) X.xe s
section
variable {X:Cx} {pos:Pos}
noncomputable def rZ (i:Nat):TG:=fun v σ H Q=>Q (σ.set i (some v)) H
theorem b7 {i:Nat} {x:Str} (hN:X.N.Nodup) (hi:X.N[i]?=some x) (hx:Loc X.env.scope x) (hf:X.fn x=true∨X.env.scope.names.lookup x=some .local:=by first | exact .inl rfl | exact .inr rfl | assumption):PG X (.Name x pos) (rZ i):=by
 intro pins s σ H v u Q I r h
 exact wpAny_assign_Name (iK I hN hi hx r (fun s' I'=>⟨_,H,I',h⟩) hf)
noncomputable def Tc:Kq:=fun vs σ H Q=>vs=[]∧Q σ H
noncomputable def Kr (t:TG) (u:Kq):Kq:=fun vs σ H Q=>∃v r,vs=v::r∧t v σ H fun σ' H'=>u r σ' H' Q
theorem nQ:X8 X [] Tc:=by
 intro pins s σ H vs us Q I r h
 obtain ⟨e,h⟩:=h
 subst e
 cases r
 exact assignInOrder_nil ⟨σ,H,I,h⟩
theorem dg {e:Expr} {es:List Expr} {t:TG} {u:Kq} (h1:PG X e t) (h2:X8 X es u)
  (hs:(assignEach (e::es) X.env).map (·.2)=assign e X.env::(assignEach es X.env).map (·.2):=by rfl):X8 X (e::es) (Kr t u):=by
 intro pins s σ H vs us Q I r h
 obtain ⟨v,vr,e1,h⟩:=h
 subst e1
 cases r with
 | cons r rr=>
  rw [hs]
  refine assignInOrder_cons (cI (h1 pins s σ H _ _ _ I r h) fun _ s1 aP=>?_)
  obtain ⟨σ1,H1,I1,q1⟩:=aP
  exact h2 pins s1 σ1 H1 _ _ Q I1 rr q1
noncomputable def Td (K:PySem.W.Frag) (n:Nat) (t:Kq):TG:=fun v σ H Q=>∃a xs,v=.ref a∧ig K H a xs∧xs.length=n∧t xs σ H Q
theorem rm {es:List Expr} {k:Nat} {t:Kq} {n:Nat} (hc:X.calm=true) (h:X8 X es t)
  (hn:(assignEach es X.env).length=n:=by rfl) (hst:(assignEach es X.env).findIdx? (·.1)=none:=by rfl):PG X (.Tuple es k pos) (Td X.K n t):=by
 intro pins s σ H v u Q I r hw
 obtain ⟨a,xs,e1,hq,hl,hw⟩:=hw
 subst e1
 cases r
 obtain ⟨its,rv,ht,hz⟩:=I.tuple hq
 refine assign_Tuple_tuple (I.ok.hd hc) ht (by simp [hn,←hl,rv.length]) hst fun h' hx=>?_
 have I1:Inv X pins σ H { s with heap:=h' }:=I.kept (t':=s.toks) fun b o e=>hx b o (Nat.ne_of_lt (Heap.lt_size e)) e
 exact h pins _ σ H xs _ Q I1 (by simpa using rv) hw
noncomputable def YS (to ti:TE) (t:O9):TG:=fun v σ H Q=>to σ H fun o H1=>ti σ H1 fun i H2=>t o i v H2 fun H3=>Q σ H3
theorem Te {o i:Expr} {to ti:TE} {t:O9} (ho:PE X o to) (hi:PE X i ti) (hs:yC X t)
  (ha:∀v,assign (.Subscript o i pos) X.env v=(do
   let ov ←holding [v] (eval o X.env)
   let iv ←holding [v,ov] (eval i X.env)
   standAt pos
   holding [v,ov,iv] (setItem ov iv v)
   release [v,ov,iv] []):=by intro _; rfl):PG X (.Subscript o i pos) (YS to ti t):=by
 intro pins s σ H v u Q I r h
 rw [ha]
 refine wpAny_bind (wpAny_holding (cI (ho pins s σ H _ I h) fun ov s1 aP=>?_))
 obtain ⟨x,H1,I1,r1,q1⟩:=aP
 refine wpAny_bind (wpAny_holding (cI (hi pins s1 σ H1 _ I1 q1) fun iv s2 aP=>?_))
 obtain ⟨y,H2,I2,r2,q2⟩:=aP
 refine wpAny_bind (wpAny_standAt (wpAny_bind (wpAny_holding (cI (hs pins s2 σ H2 x y v ov iv u _ I2 r1 r2 r q2) fun _ s3 aP=>?_))))
 obtain ⟨H3,I3,q3⟩:=aP
 exact wpAny_release ⟨σ,H3,I3,q3⟩
noncomputable def Ip (te:TE) (g:TG):TS:=fun D σ H=>te σ H fun x H1=>g x σ H1 D.nx
theorem Du {tg e:Expr} {te:TE} {g:TG} (he:PE X e te) (hg:PG X tg g) (hs:swapsWithSole [tg] e pos.line X.env=pure false:=by rfl) (hw:swappedStores [tg] e X.env=pure none:=by rfl)
  (h1:(assignEach [tg] X.env).map (·.2)=[assign tg X.env]:=by rfl):PS X (.Assign [tg] e pos) (Ip te g):=by
 intro pins s σ H D I h
 refine wpAny_Assign_stores (cI (he pins s σ H _ I h) fun v s1 aP=>?_) hs hw
 obtain ⟨x,H1,I1,r1,q1⟩:=aP
 rw [h1]
 exact cI (hg pins s1 σ H1 x v _ I1 r1 q1) fun _ s2 q=>q
theorem Ks {i:Nat} {x:Str} {e:Expr} {te:TE} {pos':Pos} (hN:X.N.Nodup) (hi:X.N[i]?=some x) (hx:Loc X.env.scope x) (he:PE X e te) (hs:swapsWith e (some (.Name x pos')) pos.line X.env=pure false:=by rfl) (hf:X.fn x=true∨X.env.scope.names.lookup x=some .local:=by first | exact .inl rfl | exact .inr rfl | assumption):
  PS X (.Assign [.Name x pos'] e pos) (Ip te (rZ i)):=by
 intro pins s σ H D I h
 refine wpAny_Assign_Name (cI (he pins s σ H _ I h) fun v s1 aP=>?_) hs
 obtain ⟨y,H1,I1,r1,q1⟩:=aP
 exact iK I1 hN hi hx r1 (fun s2 I2=>⟨_,H1,I2,q1⟩) hf
noncomputable def YT (i j:Nat) (ta:TA):TS:=fun D σ H=>ta σ H fun vs H1=>∃v w,vs=[v,w]∧D.nx ((σ.set i (some v)).set j (some w)) H1
theorem Tf {i j:Nat} {x y:Str} {a b:Expr} {ta:TA} {px py pt:Pos} {kt k2 Tg} (hc:X.calm=true) (hN:X.N.Nodup) (hi:X.N[i]?=some x) (hj:X.N[j]?=some y) (hij:i≠j)
  (hx:X.env.scope.names.lookup x=some .local) (hy:X.env.scope.names.lookup y=some .local) (ha:PA X [a,b] ta)
  (hw:swappedStores [.Tuple [.Name x px,.Name y py] kt pt] (.Tuple [a,b] k2 Tg) X.env=pure (some [x,y]))
  (hs:swapsWithSole [.Tuple [.Name x px,.Name y py] kt pt] (.Tuple [a,b] k2 Tg) pos.line X.env=pure false:=by rfl):
  PS X (.Assign [.Tuple [.Name x px,.Name y py] kt pt] (.Tuple [a,b] k2 Tg) pos) (YT i j ta):=by
 intro pins s σ H D I h
 rw [exec_Assign_arm]
 refine wpAny_bind (wpAny_standAt ?_)
 rw [hs]
 refine wpAny_bind (wpAny_pure ?_)
 rw [if_neg (by decide)]
 refine wpAny_bind (Tuple_ (cI (ha _ pins s σ H _ I h) fun us s1 aP=>?_))
 obtain ⟨vs,H1,I1,r1,q1⟩:=aP
 obtain ⟨v,w,e1,q1⟩:=q1
 subst e1
 obtain ⟨u1,u2,rfl,rv,rw'⟩:∃u1 u2,us=[u1,u2]∧RelV v u1∧RelV w u2:=by
  cases r1 with
  | cons p q=>
   cases q with
   | cons p' q'=>
    cases q'
    exact ⟨_,_,rfl,p,p'⟩
 refine wpAny_newObj_type ?_ (by show 2≤sizeLine; decide)
 have I2:Inv X pins σ H1 { s1 with heap:=s1.heap.push { cls:=.type "tuple",data:=.seq [u1,u2].toArray } }:=I1.kept (t':=s1.toks) fun b o e=>Heap.get?_push_of_some _ e
 rw [hw]
 refine wpAny_bind (wpAny_pure ?_)
 show wpAny (model X.prog X.w) X.A (do rule "assign.swapped-stores"; let items ←unpackItems (.ref s1.heap.objs.size) 2 none; assignInOrder [fun v=>bindName X.env y v,fun v=>bindName X.env x v] items.reverse; pure Flow.next) _ _ _
 refine wpAny_bind (wpAny_rule (wpAny_bind (unpackItems_tuple (items:=#[u1,u2]) (I.ok.hd hc) (IsTup.new s1.heap _) fun h' hx'=>?_)))
 have I3:=I2.kept (h':=h') (t':=s1.toks) fun b o e=>hx' b o (Nat.ne_of_lt (Heap.lt_size e)) e
 show wpAny _ _ (assignInOrder [fun v=>bindName X.env y v,fun v=>bindName X.env x v] [u2,u1] >>= fun _=>pure Flow.next) _ _ _
 refine wpAny_bind (assignInOrder_cons (wpAny_bindName (iK I3 hN hj (.inl hy) rw' (fun s2 I4=>?_) (.inr hy))))
 refine assignInOrder_cons (wpAny_bindName (iK I4 hN hi (.inl hx) rv (fun s3 I5=>assignInOrder_nil (wpAny_pure ?_)) (.inr hx)))
 rw [List.set_comm _ _ (Ne.symm hij)] at I5
 exact ⟨_,H1,I5,q1⟩
noncomputable def YW (i:Nat) (te:TE) (ti:Yb):TS:=fun D σ H=>∃x,σ[i]?=some (some x)∧te σ H fun y H1=>ti x y H1 fun z H2=>D.nx (σ.set i (some z)) H2
theorem Th {i:Nat} {x:Str} {e:Expr} {te:TE} {op:Operator} {ti:Yb} {pos':Pos} (hN:X.N.Nodup) (hi:X.N[i]?=some x) (hx:Loc X.env.scope x) (he:PE X e te) (ho:PIp X op ti) (hf:X.fn x=true∨X.env.scope.names.lookup x=some .local:=by first | exact .inl rfl | exact .inr rfl | assumption):
  PS X (.AugAssign (.Name x pos') op e pos) (YW i te ti):=by
 intro pins s σ H D I h
 obtain ⟨v,e1,h⟩:=h
 obtain ⟨m,hn,hl⟩:=I.loc
 have vis:X5 X.env.scope x:=by rcases hx with k | k; exact .inl k; exact .inr (.inl k)
 obtain ⟨u,r,l⟩:=hl i x v hi e1 vis
 refine wpAny_AugAssign_Name ?_
 have go:wpAny (model X.prog X.w) X.A (eval e X.env) (fun w s₂=>wpAny (model X.prog X.w) X.A (inplaceOp op u w) (fun r s₃=>wpAny (model X.prog X.w) X.A (storeName X.env x r) (fun _=>SP X pins D .next) X.xe s₃) X.xe s₂) X.xe s:=by
  refine cI (he pins s σ H _ I h) fun w s1 aP=>?_
  obtain ⟨y,H1,I1,r1,q1⟩:=aP
  refine cI (ho pins s1 σ H1 v y u w _ I1 r r1 q1) fun z s2 aP=>?_
  obtain ⟨zv,H2,I2,r2,q2⟩:=aP
  exact iK I2 hN hi hx r2 (fun s3 I3=>⟨_,H2,I3,q2⟩) hf
 rcases l with ⟨hk,hm⟩ | ⟨hk,c,hc,hcell⟩
 ·exact wpAny_loadName_local I.ok.kind hk hn hm go
 ·rcases hk with hk | hk
  ·exact wpAny_loadName_cell I.ok.kind hk hc hcell go
  ·rcases hx with k | k
   ·have:X.env.scope.names.lookup x=some .free:=hk
    rw [k] at this; cases this
   ·have:X.env.scope.names.lookup x=some .free:=hk
    rw [k] at this; cases this
noncomputable def ipI (f:Int→Int→Int):Yb:=fun x y H Q=>∃i j,x=.int i∧y=.int j∧Q (.int (f i j)) H
theorem Ti:PIp X .Add (ipI fun i j=>i + j):=by
 intro pins s σ H x y v u Q I r1 r2 h
 obtain ⟨i,j,e1,e2,q⟩:=h
 subst e1; subst e2
 obtain ⟨t,rfl⟩:=r1
 obtain ⟨t',rfl⟩:=r2
 exact iadd_int ⟨.int _,H,I.tok _,⟨_,rfl⟩,q⟩
end
section
variable {X:Cx} {pos:Pos}
noncomputable def Ku (c:TT) (tb:TS):TS:=fun D σ H=>∃W:Nat→St→Hp→Prop,(∃m,W m σ H)∧∀m σ H,W m σ H→
 c σ H fun b H1=>if b=true then ∃N:St→Hp→Prop,(∀σ' H',N σ' H'→∃m',m' < m∧W m' σ' H')∧tb { D with nx:=N,ct:=N,bk:=D.nx } σ H1 else D.nx σ H1
theorem Kv {c:Expr} {body:List Stmt} {tc:TT} {tb:TS} (hp:PassesOwn (model X.prog X.w) X.A X.env X.xe) (hc:PT X c tc) (hb:sY X body tb):PS X (.While c body [] pos) (Ku tc tb):=by
 intro pins s σ H D I h
 obtain ⟨W,⟨m0,w0⟩,turn⟩:=h
 refine wpAny_While (codeAny_whileLoop (fun n s'=>∃σ' H',Inv X pins σ' H' s'∧W n σ' H') ?_ m0 ⟨σ,H,I,w0⟩)
 rintro n s1 ⟨σ1,H1,I1,w1⟩
 refine wpAny_passesOwn hp (cI (hc pins s1 σ1 H1 _ I1 (turn n σ1 H1 w1)) fun b s2 aP=>?_)
 obtain ⟨H2,I2,q2⟩:=aP
 cases b with
 | true=>
  obtain ⟨N,hN,q2⟩:=q2
  rw [if_pos rfl]
  refine wpAny_passesOwn hp (cI (hb pins s2 σ1 H2 _ I2 q2) fun f s3 q3=>?_)
  cases f with
  | next=>
   obtain ⟨σ3,H3,I3,n3⟩:=q3
   obtain ⟨m',hm,w3⟩:=hN σ3 H3 n3
   exact ⟨m',hm,σ3,H3,I3,w3⟩
  | cont=>
   obtain ⟨σ3,H3,I3,n3⟩:=q3
   obtain ⟨m',hm,w3⟩:=hN σ3 H3 n3
   exact ⟨m',hm,σ3,H3,I3,w3⟩
  | brk=>exact q3
  | ret v=>exact q3
 | false=>
  rw [if_neg Bool.false_ne_true]
  exact wpAny_execs_nil ⟨σ1,H2,I2,q2⟩
end
structure It where
 go:Nat→Hp→Prop
 Rw:Nat→Hp→V→Hp→Prop
 stop:Nat→Hp→Prop
noncomputable def jg (X:Cx) (pins:List (Addr×Obj)) (H:Hp) (b:Addr):Prop:=
 H b=none∧b≠X.env.locals∧b∉X.fs∧(b∈X.ex∨X.s₀.heap.objs.size≤b)∧(∀x c,X.env.cells.lookup x=some c→c≠b)∧∀p∈X.pn++pins,p.1≠b
theorem Inv.yD {X:Cx} {pins:List (Addr×Obj)} {σ:St} {H H':Hp} {s:Shared} {b:Addr} (I:Inv X pins σ H s) (hb:s.heap.objs.size≤b) (hn:H' b=none):jg X pins H' b:=by
 refine ⟨hn,Nat.ne_of_gt (Nat.lt_of_lt_of_le I.lt hb),I.YH hb,.inr (Nat.le_trans I.sz hb),fun x c e z=>?_,fun p hp z=>?_⟩
 ·obtain ⟨v,q⟩:=I.cell x c e
  exact absurd (Nat.lt_of_lt_of_le q.lt (by rw [z]; exact hb)) (Nat.lt_irrefl _)
 ·exact absurd (Nat.lt_of_lt_of_le (Heap.lt_size (I.pin p hp).1) (by rw [z]; exact hb)) (Nat.lt_irrefl _)
structure Turn (P:Program) (w:World) (K:PySem.W.Frag) (tg:Expr) (J:It) (fp:List Addr) (it:Addr) (tn:Nat→Heap→Prop):Prop where
 mem:it∈fp
 obj:∀i h,tn i h→∀b∈fp,∃o,h.get? b=some o∧∀v,o.data≠.cell v
 keep:∀i h h',tn i h→(∀b∈fp,∀o,h.get? b=some o→h'.get? b=some o)→tn i h'
 item:∀(X:Cx),X.prog=P→X.w=w→X.K=K→X.calm=true→∀(i:Nat) (pins:List (Addr×Obj)) (s:Shared) (σ:St) (H:Hp) (E:Value→Shared→Prop),Inv X pins σ H s→(∀b∈fp,jg X pins H b)→tn i s.heap→J.go i H→
  wpAny (model P w) X.A (pyNext (.ref it)) (fun r s1=>∃u,r=some u∧
   wpAny (model P w) X.A (letOwnedTupleGo tg (.ref it) u) (fun _ s2=>∃x H',Inv X pins σ H' s2∧RelV x u∧J.Rw i H x H'∧tn (i + 1) s2.heap∧∀b∈fp,H' b=none) E s1) E s
 done:∀(X:Cx),X.prog=P→X.w=w→X.K=K→X.calm=true→∀(i:Nat) (pins:List (Addr×Obj)) (s:Shared) (σ:St) (H:Hp) (E:Value→Shared→Prop),Inv X pins σ H s→(∀b∈fp,jg X pins H b)→tn i s.heap→J.stop i H→
  wpAny (model P w) X.A (pyNext (.ref it)) (fun r s1=>r=none∧Inv X pins σ H s1) E s
 self:∀(A:Around) (i:Nat) (s:Shared) (Q:Value→Shared→Prop) (E:Value→Shared→Prop),tn i s.heap→Q (.ref it) s→wpAny (model P w) A (pyIter (.ref it)) Q E s
noncomputable abbrev TI:=St→Hp→(It→Hp→Prop)→Prop
noncomputable def PIE (X:Cx) (pins:List (Addr×Obj)) (σ:St) (tg:Expr) (R:It→Hp→Prop) (itv:Value) (s2:Shared):Prop:=
 ∃(it:Addr) (fp:List Addr) (tn:Nat→Heap→Prop) (J:It) (H':Hp),itv=.ref it∧Inv X pins σ H' s2∧Turn X.prog X.w X.K tg J fp it tn∧tn 0 s2.heap∧(∀b∈fp,jg X pins H' b)∧R J H'
noncomputable def PI (X:Cx) (tg iter:Expr) (wi:TI):Prop:=
 ∀(pins:List (Addr×Obj)) (s:Shared) (σ:St) (H:Hp) (R:It→Hp→Prop),Inv X pins σ H s→wi σ H R→
  wpAny (model X.prog X.w) X.A (eval iter X.env) (fun v s1=>wpAny (model X.prog X.w) X.A (pyIter v) (PIE X pins σ tg R) X.xe s1) X.xe s
theorem Kw {M:Model} {A:Around} {E:Value→Shared→Prop} {s:Shared} {tg:Expr} {it:Addr} {u:Value} {o:Obj} {n:String} {vs:Array Value} {Q:Unit→Shared→Prop} (ho:s.heap.get? it=some o) (hc:o.cls=.type n) (hd:o.data=.fields vs)
  (hn:["enumerate","zip","dict_itemiterator","dict_reverseitemiterator","odict_iterator","itertools.zip_longest","itertools.pairwise"].contains n=false) (hQ:Q () s):wpAny M A (letOwnedTupleGo tg (.ref it) u) Q E s:=by
 unfold letOwnedTupleGo
 cases tg <;> first
  | exact wpAny_pure hQ
  | (cases u <;> first
    | exact wpAny_pure hQ
    | (refine wpAny_bind (wpAny_load ho ?_)
       rw [hc,hd]
       show wpAny M A (if (["enumerate","zip","dict_itemiterator","dict_reverseitemiterator","odict_iterator","itertools.zip_longest","itertools.pairwise"].contains n&&vs[0]?==some (rawInt _))=true then _ else _) Q E s
       rw [if_neg (by intro h; rw [hn,Bool.false_and] at h; cases h)]
       exact wpAny_pure hQ))
noncomputable def YX (K:PySem.W.Frag) (a:Addr):It:=
 ⟨fun i H=>∃xs x,cZ K H a xs∧xs[i]?=some x,fun i H x H'=>H'=H∧∀xs,cZ K H a xs→xs[i]?=some x,fun i H=>∃xs,cZ K H a xs∧xs.length≤i⟩
noncomputable def YZ (K:PySem.W.Frag) (a:Addr):It:=
 ⟨fun i H=>∃xs x,ig K H a xs∧xs[i]?=some x,fun i H x H'=>H'=H∧∀xs,ig K H a xs→xs[i]?=some x,fun i H=>∃xs,ig K H a xs∧xs.length≤i⟩
noncomputable def V6 (lo:Int) (n:Nat):It:=⟨fun i _=>i < n,fun i H x H'=>H'=H∧x=.int (lo + i),fun i _=>n≤i⟩
theorem Ir {P:Program} {w:World} {K:PySem.W.Frag} {tg:Expr} (a it:Addr):Turn P w K tg (YX K a) [it] it (fun i h=>h.IsListIter it a i) where
 mem:=by simp
 obj:=fun i h st b hb=>by
  have e:b=it:=by simpa using hb
  subst e
  obtain ⟨o,e,c,d⟩:=st
  exact ⟨o,e,fun v z=>by rw [d] at z; cases z⟩
 keep:=fun i h h' st k=>st.at fun o e=>k it (by simp) o e
 item:=by
  intro X hP hw hK hc i pins s σ H E I hf st hg
  subst hP hw hK
  obtain ⟨xs,x,hq,hx⟩:=hg
  obtain ⟨its,rv,p,hz⟩:=I.list hq
  obtain ⟨u,hu,ru⟩:=rv.get hx
  obtain ⟨f0,f1,f2,f3,f4,f5⟩:=hf it (by simp)
  refine wpAny_pyNext_list_item st p.isList (x:=u) (by simpa using hu) fun h' st' sb=>?_
  have I1:Inv X pins σ H { s with heap:=h' }:=I.turned (t':=s.toks) (fun b o hb e=>(sb.2 b hb).trans e) f0 f1 f3 f4 f5
  obtain ⟨o,e,c,d⟩:=id st'
  exact ⟨u,rfl,Kw (s:={ s with heap:=h' }) e c d (by decide) ⟨x,H,I1,ru,⟨rfl,fun ys hy=>by rw [I.pR hy hq]; exact hx⟩,st',fun b hb=>(hf b hb).1⟩⟩
 done:=by
  intro X hP hw hK hc i pins s σ H E I hf st hg
  subst hP hw hK
  obtain ⟨xs,hq,hx⟩:=hg
  obtain ⟨its,rv,p,hz⟩:=I.list hq
  obtain ⟨f0,f1,f2,f3,f4,f5⟩:=hf it (by simp)
  have hl:=rv.length
  exact wpAny_pyNext_list_end (I.ok.hd hc) st p.isList (by simp; omega) fun h' eb=>⟨rfl,I.turned (t':=s.toks) (fun b o hb e=>eb b o hb e) f0 f1 f3 f4 f5⟩
 self:=fun _ _ _ _ _ st h=>wpAny_pyIter_listiter st h
theorem Dv {P:Program} {w:World} {K:PySem.W.Frag} {tg:Expr} (a it:Addr):Turn P w K tg (YZ K a) [it] it (fun i h=>h.IsTupleIter it a i) where
 mem:=by simp
 obj:=fun i h st b hb=>by
  have e:b=it:=by simpa using hb
  subst e
  obtain ⟨o,e,c,d⟩:=st
  exact ⟨o,e,fun v z=>by rw [d] at z; cases z⟩
 keep:=fun i h h' st k=>st.at fun o e=>k it (by simp) o e
 item:=by
  intro X hP hw hK hc i pins s σ H E I hf st hg
  subst hP hw hK
  obtain ⟨xs,x,hq,hx⟩:=hg
  obtain ⟨its,rv,p,hz⟩:=I.tuple hq
  obtain ⟨u,hu,ru⟩:=rv.get hx
  obtain ⟨f0,f1,f2,f3,f4,f5⟩:=hf it (by simp)
  refine wpAny_pyNext_tuple_item st (show s.heap.IsTuple a its.toArray from p) (x:=u) (by simpa using hu) fun h' st' sb=>?_
  have I1:Inv X pins σ H { s with heap:=h' }:=I.turned (t':=s.toks) (fun b o hb e=>(sb.2 b hb).trans e) f0 f1 f3 f4 f5
  obtain ⟨o,e,c,d⟩:=id st'
  exact ⟨u,rfl,Kw (s:={ s with heap:=h' }) e c d (by decide) ⟨x,H,I1,ru,⟨rfl,fun ys hy=>by rw [I.Io hy hq]; exact hx⟩,st',fun b hb=>(hf b hb).1⟩⟩
 done:=by
  intro X hP hw hK hc i pins s σ H E I hf st hg
  subst hP hw hK
  obtain ⟨xs,hq,hx⟩:=hg
  obtain ⟨its,rv,p,hz⟩:=I.tuple hq
  obtain ⟨f0,f1,f2,f3,f4,f5⟩:=hf it (by simp)
  have hl:=rv.length
  exact wpAny_pyNext_tuple_end (I.ok.hd hc) st (show s.heap.IsTuple a its.toArray from p) (by simp; omega) fun h' eb=>⟨rfl,I.turned (t':=s.toks) (fun b o hb e=>eb b o hb e) f0 f1 f3 f4 f5⟩
 self:=fun _ _ _ _ _ st h=>wpAny_pyIter_tupleiter st h
theorem Dw {P:Program} {w:World} {K:PySem.W.Frag} {tg:Expr} (it:Addr) (lo:Int) (n:Nat):Turn P w K tg (V6 lo n) [it] it (fun i h=>IsRangeIter h it (lo + (i:Nat) * 1) ((n:Int) - (i:Nat)) 1) where
 mem:=by simp
 obj:=fun i h st b hb=>by
  have e:b=it:=by simpa using hb
  subst e
  exact ⟨_,st,fun v z=>by
   have z':Data.fields _=Data.cell v:=z
   cases z'⟩
 keep:=fun i h h' st k=>k it (by simp) _ st
 item:=by
  intro X hP hw hK hc i pins s σ H E I hf st hg
  subst hP hw hK
  obtain ⟨f0,f1,f2,f3,f4,f5⟩:=hf it (by simp)
  have W:=Walks.range (prog:=X.prog) (w:=X.w) (I.ok.hd hc) it lo 1 n
  refine W.item i s _ _ hg st fun v h' tk hv st' kk=>?_
  obtain ⟨t,rfl⟩:=hv
  have I1:Inv X pins σ H { s with heap:=h',toks:=tk }:=I.turned (fun b o hb e=>kk b o (by simpa using hb) e) f0 f1 f3 f4 f5
  refine ⟨_,rfl,Kw (s:={ s with heap:=h',toks:=tk }) (n:="range_iterator") st' rfl rfl (by decide) ⟨.int (lo + i),H,I1,⟨t,?_⟩,⟨rfl,rfl⟩,st',fun b hb=>(hf b hb).1⟩⟩
  rw [Int.mul_one]
 done:=by
  intro X hP hw hK hc i pins s σ H E I hf st hg
  subst hP hw hK
  obtain ⟨f0,f1,f2,f3,f4,f5⟩:=hf it (by simp)
  exact wpAny_pyNext_range_end (I.ok.hd hc) st (by have:n≤i:=hg; omega) fun h' eb=>⟨rfl,I.turned (t':=s.toks) (fun b o hb e=>eb b o hb e) f0 f1 f3 f4 f5⟩
 self:=fun _ _ _ _ _ st h=>wpAny_pyIter_rangeiter st h
end L2
namespace L2
open PySem PySem.Spec PyProof.Rows
section
variable {X:Cx} {tg:Expr}
noncomputable def V7 (K:PySem.W.Frag) (tl:TE):TI:=fun σ H R=>tl σ H fun x H1=>∃a,x=.ref a∧(∃xs,cZ K H1 a xs)∧R (YX K a) H1
noncomputable def Y0 (K:PySem.W.Frag) (tl:TE):TI:=fun σ H R=>tl σ H fun x H1=>∃a,x=.ref a∧(∃xs,ig K H1 a xs)∧R (YZ K a) H1
theorem tK {l:Expr} {tl:TE} (hl:PE X l tl):PI X tg l (V7 X.K tl):=by
 intro pins s σ H R I h
 refine cI (hl pins s σ H _ I h) fun v s1 aP=>?_
 obtain ⟨x,H1,I1,r1,q1⟩:=aP
 obtain ⟨a,e,⟨xs,hq⟩,q⟩:=q1
 subst e
 cases r1
 obtain ⟨its,rv,p,hz⟩:=I1.list hq
 refine wpAny_pyIter_list p.isList ?_
 refine ⟨s1.heap.objs.size,[s1.heap.objs.size],_,_,H1,rfl,I1.kept (t':=s1.toks) fun b o e=>Heap.get?_push_of_some _ e,Ir a _,⟨_,Heap.get?_push_size _ rfl,rfl,rfl⟩,fun b hb=>?_,q⟩
 have e:b=s1.heap.objs.size:=by simpa using hb
 subst e
 exact I1.yD (Nat.le_refl _) (I1.hok.fresh (Nat.le_refl _))
theorem yE {l:Expr} {tl:TE} (hl:PE X l tl):PI X tg l (Y0 X.K tl):=by
 intro pins s σ H R I h
 refine cI (hl pins s σ H _ I h) fun v s1 aP=>?_
 obtain ⟨x,H1,I1,r1,q1⟩:=aP
 obtain ⟨a,e,⟨xs,hq⟩,q⟩:=q1
 subst e
 cases r1
 obtain ⟨its,rv,p,hz⟩:=I1.tuple hq
 refine wpAny_pyIter_tuple (show s1.heap.IsTuple a its.toArray from p) ?_
 refine ⟨s1.heap.objs.size,[s1.heap.objs.size],_,_,H1,rfl,I1.kept (t':=s1.toks) fun b o e=>Heap.get?_push_of_some _ e,Dv a _,⟨_,Heap.get?_push_size _ rfl,rfl,rfl⟩,fun b hb=>?_,q⟩
 have e:b=s1.heap.objs.size:=by simpa using hb
 subst e
 exact I1.yD (Nat.le_refl _) (I1.hok.fresh (Nat.le_refl _))
theorem Ai {pins:List (Addr×Obj)} {σ:St} {H:Hp} {s:Shared} {R:It→Hp→Prop} {E:Value→Shared→Prop} {lo hi:Int} {t u v:Tok} {tk:Nat} (I:Inv X pins σ H s) (h1:-(2 ^ 62)≤lo) (h2:lo < 2 ^ 62) (h3:-(2 ^ 62)≤hi) (h4:hi < 2 ^ 62)
  (q:R (V6 lo (hi - lo).toNat) H):wpAny (model X.prog X.w) X.A (pyIter (.ref s.heap.objs.size)) (PIE X pins σ tg R) E { s with heap:=s.heap.push { cls:=.type "range",data:=.fields #[.int lo t,.int hi u,.int 1 v] },toks:=tk }:=by
 refine wpAny_pyIter_range (IsRange.new ..) (small_one h1 h2 h3 h4) ?_
 have I1:Inv X pins σ H { s with heap:=s.heap.push { cls:=.type "range",data:=.fields #[.int lo t,.int hi u,.int 1 v] },toks:=tk }:=I.kept fun b o e=>Heap.get?_push_of_some _ e
 refine ⟨(s.heap.push { cls:=.type "range",data:=.fields #[.int lo t,.int hi u,.int 1 v] }).objs.size,[(s.heap.push { cls:=.type "range",data:=.fields #[.int lo t,.int hi u,.int 1 v] }).objs.size],_,_,H,rfl,
  I1.kept (t':=tk) fun b o e=>Heap.get?_push_of_some _ e,Dw _ lo (hi - lo).toNat,?_,fun b hb=>?_,q⟩
 ·have e1:lo + ((0:Nat):Int) * 1=lo:=by simp
  have e2:(((hi - lo).toNat:Nat):Int) - ((0:Nat):Int)=Builtin.Range.rangeSize lo hi 1:=by rw [rangeSize_one]; split <;> omega
  show IsRangeIter _ _ (lo + ((0:Nat):Int) * 1) ((((hi - lo).toNat:Nat):Int) - ((0:Nat):Int)) 1
  rw [e1,e2]
  exact Heap.get?_push_size _ rfl
 ·have e:b=(s.heap.push { cls:=.type "range",data:=.fields #[.int lo t,.int hi u,.int 1 v] }).objs.size:=by simpa using hb
  subst e
  exact I1.yD (Nat.le_refl _) (I1.hok.fresh (Nat.le_refl _))
noncomputable def V8 (ta:TA):TI:=fun σ H R=>ta σ H fun vs H1=>∃j:Int,vs=[.int j]∧-(2 ^ 62)≤j∧j < 2 ^ 62∧R (V6 0 j.toNat) H1
noncomputable def V9 (ta:TA):TI:=fun σ H R=>ta σ H fun vs H1=>∃i j:Int,vs=[.int i,.int j]∧(-(2 ^ 62)≤i∧i < 2 ^ 62∧-(2 ^ 62)≤j∧j < 2 ^ 62)∧R (V6 i (j - i).toNat) H1
theorem Iu {a:Expr} {ta:TA} {p pos:Pos} (hg:Gl X "range") (hm:X.mg "range"=none) (ha:PA X [a] ta) (hs:starEach [a] X.env=[(false,eval a X.env)]:=by rfl):PI X tg (.Call (.Name "range" p) [a] [] pos) (V8 ta):=by
 intro pins s σ H R I h
 refine Call_ (kE I hg hm boot_range (PyProof.Rows.callWith_type1 (cI (ha pos pins s σ H _ I h) fun us s1 aP=>?_) hs rfl))
 obtain ⟨vs,H1,I1,r1,q1⟩:=aP
 obtain ⟨j,e,q1,q2,q⟩:=q1
 subst e
 cases r1 with
 | cons r rr=>
  cases rr
  obtain ⟨t,rfl⟩:=r
  exact call_range_1 (Ai I1 (by omega) (by omega) q1 q2 (by simpa using q))
theorem Iv {a b:Expr} {ta:TA} {p pos:Pos} (hg:Gl X "range") (hm:X.mg "range"=none) (ha:PA X [a,b] ta) (hs:starEach [a,b] X.env=[(false,eval a X.env),(false,eval b X.env)]:=by rfl) (hs2:starEach [b] X.env=[(false,eval b X.env)]:=by rfl):
  PI X tg (.Call (.Name "range" p) [a,b] [] pos) (V9 ta):=by
 intro pins s σ H R I h
 refine Call_ (kE I hg hm boot_range (PyProof.Rows.callWith_type1 (cI (ha pos pins s σ H _ I h) fun us s1 aP=>?_) (by rw [hs,hs2]) (by rw [hs2]; rfl)))
 obtain ⟨vs,H1,I1,r1,q1⟩:=aP
 obtain ⟨i,j,e,⟨q1,q2,q3,q4⟩,q⟩:=q1
 subst e
 cases r1 with
 | cons r rr=>
  cases rr with
  | cons r' rr=>
   cases rr
   obtain ⟨t,rfl⟩:=r
   obtain ⟨t',rfl⟩:=r'
   exact call_range_2 (Ai I1 q1 q2 q3 q4 q)
noncomputable def Wa (wi:TI) (g:TG) (tb:TS):TS:=fun D σ H=>wi σ H fun J H1=>∃W:Nat→Nat→St→Hp→Prop,(∃m,W 0 m σ H1)∧∀i m σ H,W i m σ H→
 (J.stop i H∧D.nx σ H)∨(J.go i H∧∃N:St→Hp→Prop,(∀σ' H',N σ' H'→∃m',m' < m∧W (i + 1) m' σ' H')∧∀x H',J.Rw i H x H'→g x σ H' fun σ2 H2=>tb { D with nx:=N,ct:=N,bk:=D.nx } σ2 H2)
noncomputable def uf (fp:List Addr) (h:Heap):List (Addr×Obj):=fp.filterMap fun b=>(h.get? b).map fun o=>(b,o)
theorem kI {fp:List Addr} {h:Heap} {b:Addr} {o:Obj} (hb:b∈fp) (e:h.get? b=some o):(b,o)∈uf fp h:=List.mem_filterMap.mpr ⟨b,hb,by rw [e]; rfl⟩
theorem Iw {fp:List Addr} {h:Heap} {p:Addr×Obj} (hp:p∈uf fp h):p.1∈fp∧h.get? p.1=some p.2:=by
 obtain ⟨b,hb,e⟩:=List.mem_filterMap.mp hp
 cases q:h.get? b with
 | none=>rw [q] at e; cases e
 | some o=>
  rw [q] at e
  have e':(b,o)=p:=Option.some.inj e
  subst e'
  exact ⟨hb,q⟩
theorem Inv.pinned {pins:List (Addr×Obj)} {σ:St} {H:Hp} {s:Shared} {fp:List Addr} (I:Inv X pins σ H s) (hf:∀b∈fp,jg X pins H b) (ho:∀b∈fp,∃o,s.heap.get? b=some o∧∀v,o.data≠.cell v):Inv X (pins++uf fp s.heap) σ H s:=
 I.Gq fun p hp=>(List.mem_append.mp hp).elim (fun z=>I.pin p (List.mem_append_right _ z)) fun z=>by
  obtain ⟨hb,e⟩:=Iw z
  obtain ⟨f0,f1,f2,_⟩:=hf p.1 hb
  obtain ⟨o,e',d⟩:=ho p.1 hb
  rw [e] at e'; cases e'
  exact ⟨e,f0,f1,f2,d⟩
theorem Inv.pU {pins pl:List (Addr×Obj)} {σ:St} {H:Hp} {s:Shared} (I:Inv X (pins++pl) σ H s):Inv X pins σ H s:=I.Gq fun p hp=>I.pin p (List.mem_append_right _ (List.mem_append_left _ hp))
theorem Tj {iter:Expr} {body:List Stmt} {wi:TI} {g:TG} {tb:TS} {pos:Pos} (hp:PassesOwn (model X.prog X.w) X.A X.env X.xe) (hc:X.calm=true) (hi:PI X tg iter wi) (hg:PG X tg g) (hb:sY X body tb)
  (hs:∀x,foldedSetIterable iter X.env x=pure x:=by intro _; rfl):PS X (.For tg iter body [] pos) (Wa wi g tb):=by
 intro pins s σ H D I h
 refine wpAny_For (cI (hi pins s σ H _ I h) fun v s1 h1=>cI h1 fun itv s2 h2=>?_) hs
 obtain ⟨it,fp,tn,J,H2,e,I2,T,st2,f2,W,⟨m0,w0⟩,turn⟩:=h2
 subst e
 have stat:∀{H':Hp},(∀b∈fp,H' b=none)→∀b∈fp,jg X pins H' b:=fun hn b hb=>⟨hn b hb,(f2 b hb).2⟩
 refine codeAny_forLoop_any (fun n s'=>∃i σ' H',Inv X pins σ' H' s'∧tn i s'.heap∧(∀b∈fp,H' b=none)∧W i n σ' H') ?_ m0 ⟨0,σ,H2,I2,st2,fun b hb=>(f2 b hb).1,w0⟩
 rintro n s3 ⟨i,σ3,H3,I3,st3,Wb,w3⟩
 rcases turn i n σ3 H3 w3 with ⟨stop,qn⟩ | ⟨go,N,hN,step⟩
 ·refine wpAny_passesOwn hp (cI (T.done X rfl rfl rfl hc i pins s3 σ3 H3 X.xe I3 (stat Wb) st3 stop) fun r s4 aP=>?_)
  obtain ⟨hr,I4⟩:=aP
  subst hr
  exact wpAny_execs_nil ⟨σ3,H3,I4,qn⟩
 ·refine wpAny_passesOwn hp (cI (T.item X rfl rfl rfl hc i pins s3 σ3 H3 X.xe I3 (stat Wb) st3 go) fun r s4 aP=>?_)
  obtain ⟨u,hr,h4⟩:=aP
  subst hr
  refine wpAny_passesOwn hp (cI h4 fun _ s5 aP=>?_)
  obtain ⟨x,H5,I5,r5,y5,Tn,Y4⟩:=aP
  have Y5:=I5.pinned (stat Y4) (T.obj _ _ Tn)
  refine wpAny_passesOwn hp (cI (hg _ s5 σ3 H5 x u _ Y5 r5 (step x H5 y5)) fun _ s6 aP=>?_)
  obtain ⟨σ6,H6,I6,q6⟩:=aP
  refine wpAny_passesOwn hp (cI (hb _ s6 σ6 H6 _ I6 q6) fun f s7 q7=>?_)
  have again:∀{σ7:St} {H7:Hp},Inv X (pins++uf fp s5.heap) σ7 H7 s7→N σ7 H7→∃m,m < n∧∃i σ' H',Inv X pins σ' H' s7∧tn i s7.heap∧(∀b∈fp,H' b=none)∧W i m σ' H':=fun {σ7 H7} I7 n7=>by
   obtain ⟨m',hm,w7⟩:=hN σ7 H7 n7
   refine ⟨m',hm,i + 1,σ7,H7,I7.pU,T.keep _ _ _ Tn fun b hb o e=>(I7.pin (b,o) (List.mem_append_right _ (List.mem_append_right _ (kI hb e)))).1,fun b hb=>?_,w7⟩
   obtain ⟨o,e,d⟩:=T.obj _ _ Tn b hb
   exact (I7.pin (b,o) (List.mem_append_right _ (List.mem_append_right _ (kI hb e)))).2.1
  cases f with
  | next=>obtain ⟨σ7,H7,I7,n7⟩:=q7; exact again I7 n7
  | cont=>obtain ⟨σ7,H7,I7,n7⟩:=q7; exact again I7 n7
  | brk=>obtain ⟨σ7,H7,I7,q7⟩:=q7; exact ⟨σ7,H7,I7.pU,q7⟩
  | ret v=>obtain ⟨x7,σ7,H7,I7,r7,q7⟩:=q7; exact ⟨x7,σ7,H7,I7.pU,r7,q7⟩
end
end L2
namespace L2
open PySem PySem.Spec PyProof.Rows
noncomputable abbrev R2:=V→V→Hp→VK→Prop
noncomputable def gF (X:Cx) (f:Value→Value→Sem Value) (r:R2):Prop:=
 ∀(pins:List (Addr×Obj)) (s:Shared) (σ:St) (H:Hp) (x y:V) (v u:Value) (Q:VK),Inv X pins σ H s→RelV x v→RelV y u→r x y H Q→
  wpAny (model X.prog X.w) X.A (f v u) (EP X pins σ Q) X.xe s
noncomputable def dZ (X:Cx) (f:Value) (r:List V→Hp→VK→Prop):Prop:=
 ∀(pins:List (Addr×Obj)) (s:Shared) (σ:St) (H:Hp) (xs:List V) (us:List Value) (Q:VK),Inv X pins σ H s→Vals xs us→r xs H Q→
  wpAny (model X.prog X.w) X.A (call f us) (EP X pins σ Q) X.xe s
noncomputable def Y6 (X:Cx) (r:V→Hp→(Bool→Hp→Prop)→Prop):Prop:=
 ∀(pins:List (Addr×Obj)) (s:Shared) (σ:St) (H:Hp) (x:V) (v:Value) (Q:Bool→Hp→Prop),Inv X pins σ H s→RelV x v→r x H Q→
  wpAny (model X.prog X.w) X.A (truthy v) (TP X pins σ Q) X.xe s
noncomputable def Wc (r:R2) (ta tb:TE):TE:=fun σ H Q=>ta σ H fun x H1=>tb σ H1 fun y H2=>r x y H2 Q
noncomputable def rI (C:Int→Int→Prop) (g:Int→Int→V):R2:=fun x y H Q=>∃i j,x=.int i∧y=.int j∧C i j∧Q (g i j) H
noncomputable def Iz (g:Int→Int→V):R2:=fun x y H Q=>∃i j,x=.int i∧y=.int j∧Q (g i j) H
section
variable {X:Cx} {a b c:Expr} {ta tb tc:TE} {pos:Pos}
theorem Tp (ha:PE X a ta) (hb:PE X b tb) {pins:List (Addr×Obj)} {s:Shared} {σ:St} {H:Hp} {R:V→V→Hp→Prop} (I:Inv X pins σ H s)
  (h:ta σ H fun x H1=>tb σ H1 fun y H2=>R x y H2) {Q:Value→Shared→Prop} {f:Value→Value→Sem Value}
  (hf:∀v u s2 x y H2,Inv X pins σ H2 s2→RelV x v→RelV y u→R x y H2→wpAny (model X.prog X.w) X.A (f v u) Q X.xe s2):
  wpAny (model X.prog X.w) X.A (eval a X.env) (fun v s₁=>wpAny (model X.prog X.w) X.A (eval b X.env) (fun u s₂=>wpAny (model X.prog X.w) X.A (f v u) Q X.xe s₂) X.xe s₁) X.xe s:=by
 refine cI (ha pins s σ H _ I h) fun v s1 aP=>?_
 obtain ⟨x,H1,I1,r1,q1⟩:=aP
 refine cI (hb pins s1 σ H1 _ I1 q1) fun u s2 aP=>?_
 obtain ⟨y,H2,I2,r2,q2⟩:=aP
 exact hf v u s2 x y H2 I2 r1 r2 q2
theorem Wd {op:Operator} {r:R2} (ho:gF X (binaryOp op) r) (ha:PE X a ta) (hb:PE X b tb):PE X (.BinOp a op b pos) (Wc r ta tb):=by
 intro pins s σ H Q I h
 exact wpAny_BinOp (Tp ha hb I h fun v u s2 x y H2 I2 rx ry q=>ho pins s2 σ H2 x y v u Q I2 rx ry q)
theorem Yc {f:Value→Value→Sem Value} {C:Int→Int→Prop} {g:Int→Int→Int}
  (rule:∀(i j:Int) (t u:Tok) (s:Shared) (Q:Value→Shared→Prop) (E:Value→Shared→Prop),C i j→Q (.int (g i j) s.toks) { s with toks:=s.toks + 1 }→wpAny (model X.prog X.w) X.A (f (.int i t) (.int j u)) Q E s):
  gF X f (rI C fun i j=>.int (g i j)):=by
 intro pins s σ H x y v u Q I rx ry h
 obtain ⟨i,j,rfl,rfl,hc,q⟩:=h
 obtain ⟨t,rfl⟩:=rx
 obtain ⟨t',rfl⟩:=ry
 exact rule i j t t' s _ _ hc ⟨.int (g i j),H,I.tok _,⟨_,rfl⟩,q⟩
theorem We {f:Value→Value→Sem Value} {g:Int→Int→Int}
  (rule:∀(i j:Int) (t u:Tok) (s:Shared) (Q:Value→Shared→Prop) (E:Value→Shared→Prop),Q (.int (g i j) s.toks) { s with toks:=s.toks + 1 }→wpAny (model X.prog X.w) X.A (f (.int i t) (.int j u)) Q E s):
  gF X f (Iz fun i j=>.int (g i j)):=by
 intro pins s σ H x y v u Q I rx ry h
 obtain ⟨i,j,rfl,rfl,q⟩:=h
 obtain ⟨t,rfl⟩:=rx
 obtain ⟨t',rfl⟩:=ry
 exact rule i j t t' s _ _ ⟨.int (g i j),H,I.tok _,⟨_,rfl⟩,q⟩
theorem Tq {f:Value→Value→Sem Value} {g:Int→Int→Bool}
  (rule:∀(i j:Int) (t u:Tok) (s:Shared) (Q:Value→Shared→Prop) (E:Value→Shared→Prop),Q (.bool (g i j)) s→wpAny (model X.prog X.w) X.A (f (.int i t) (.int j u)) Q E s):
  gF X f (Iz fun i j=>.bl (g i j)):=by
 intro pins s σ H x y v u Q I rx ry h
 obtain ⟨i,j,rfl,rfl,q⟩:=h
 obtain ⟨t,rfl⟩:=rx
 obtain ⟨t',rfl⟩:=ry
 exact rule i j t t' s _ _ ⟨.bl (g i j),H,I,rfl,q⟩
noncomputable def Wf (i j:Int):Prop:=0 < j∧j < 1073741824
noncomputable def Wg (i j:Int):Prop:=0≤j∧j≤1000000∧i.natAbs < 2 ^ 64
noncomputable def Pa (i j:Int):Prop:=(-(2 ^ 64) < i∧i < 2 ^ 64)∨(-(2 ^ 64) < j∧j < 2 ^ 64)
theorem Pa.ok {i j:Int} (h:Pa i j):IntMulOk i j:=by
 rcases h with ⟨h1,h2⟩ | ⟨h1,h2⟩
 ·exact .of_left (intBits_le_64 h1 h2)
 ·exact .of_right (intBits_le_64 h1 h2)
theorem Tr:gF X (binaryOp .Add) (Iz fun i j=>.int (i + j)):=We fun _ _ _ _ _ _ _ q=>add_int q
theorem Dy:gF X (binaryOp .Sub) (Iz fun i j=>.int (i - j)):=We fun _ _ _ _ _ _ _ q=>sub_int q
theorem jz:gF X (binaryOp .Mult) (rI Pa fun i j=>.int (i * j)):=Yc fun _ _ _ _ _ _ _ hc q=>mul_int q hc.ok
theorem yF:gF X (binaryOp .FloorDiv) (rI Wf fun i j=>.int (i / j)):=Yc fun i j _ _ _ _ _ hc q=>by
 have h1:(0:Int) < j:=hc.1
 have h2:j < 1073741824:=hc.2
 exact floordiv_int (by omega) (by rw [Int.fdiv_eq_ediv_of_nonneg i (by omega)]; exact q) (.inl (PyProof.noPylong_small (by omega)))
theorem jA:gF X (binaryOp .Mod) (rI (fun _ j=>0 < j) fun i j=>.int (i % j)):=Yc fun i j _ _ _ _ _ hc q=>by
 have h1:(0:Int) < j:=hc
 exact mod_int' (by omega) (by rw [Int.fmod_eq_emod_of_nonneg i (by omega)]; exact q)
theorem Ky:gF X (binaryOp .Pow) (rI Wg fun i j=>.int (i ^ j.toNat)):=Yc fun _ _ _ _ _ _ _ hc q=>pow_int_small hc.1 hc.2.1 hc.2.2 q
end
noncomputable def Tt:V→V→Bool
 | .non,.non=>true | .non,.int _=>true | .int _,.non=>true | .non,.bl _=>true | .bl _,.non=>true | .non,.str _=>true | .str _,.non=>true
 | .int _,.int _=>true | .bl _,.bl _=>true | .str _,.str _=>true | .Il _,.Il _=>true
 | .int _,.str _=>true | .str _,.int _=>true | .bl _,.str _=>true | .str _,.bl _=>true
 | _,_=>false
noncomputable def rEq:R2:=fun x y H Q=>Tt x y=true∧Q (.bl (decide (x=y))) H
noncomputable def rNe:R2:=fun x y H Q=>Tt x y=true∧Q (.bl (!decide (x=y))) H
theorem yG {i j:Int}:decide (V.int i=V.int j)=(i==j):=by
 rw [Bool.eq_iff_iff]
 simp
theorem Dz {i j:Bool}:decide (V.bl i=V.bl j)=(i==j):=by
 rw [Bool.eq_iff_iff]
 simp
theorem yH {i j:Str}:decide (V.str i=V.str j)=(i==j):=by
 rw [Bool.eq_iff_iff]
 simp
theorem Gu {i j:Array UInt8}:decide (V.Il i=V.Il j)=(i.toList==j.toList):=by
 rw [Bool.eq_iff_iff]
 cases i
 cases j
 simp
section
variable {X:Cx} {a b c:Expr} {ta tb tc:TE} {pos:Pos}
theorem bB {pins:List (Addr×Obj)} {σ:St} {H:Hp} {s:Shared} {Q:VK} {k k':Bool} (I:Inv X pins σ H s) (q:Q (.bl k) H) (e:k=k'):EP X pins σ Q (.bool k') s:=by
 subst e
 exact ⟨.bl k,H,I,rfl,q⟩
theorem Wh:gF X (compareOp .Eq) rEq:=by
 intro pins s σ H x y v u Q I rx ry h
 obtain ⟨hs,q⟩:=h
 cases x with
 | non=>
  cases rx
  cases y with
  | non=>cases ry; exact PySem.EqNone.eq_none_none (bB I q (by simp))
  | bl j=>cases ry; exact PySem.EqNone.eq_none_bool (bB I q (by simp))
  | int j=>obtain ⟨t',rfl⟩:=ry; exact PySem.EqNone.eq_none_int (bB I q (by simp))
  | str j=>obtain ⟨t',rfl⟩:=ry; exact PySem.EqNone.eq_none_str (bB I q (by simp))
  | _=>exact absurd (show false=true from hs) Bool.false_ne_true
 | bl i=>
  cases rx
  cases y with
  | non=>cases ry; exact PySem.EqNone.eq_bool_none (bB I q (by simp))
  | bl j=>cases ry; exact eq_bool (bB I q Dz)
  | str j=>obtain ⟨t',rfl⟩:=ry; exact PySem.EqMixed.eq_bool_str (bB I q (by simp))
  | _=>exact absurd (show false=true from hs) Bool.false_ne_true
 | int i=>
  obtain ⟨t,rfl⟩:=rx
  cases y with
  | non=>cases ry; exact PySem.EqNone.eq_int_none (bB I q (by simp))
  | int j=>obtain ⟨t',rfl⟩:=ry; exact eq_int (bB I q yG)
  | str j=>obtain ⟨t',rfl⟩:=ry; exact PySem.EqMixed.eq_int_str (bB I q (by simp))
  | _=>exact absurd (show false=true from hs) Bool.false_ne_true
 | str i=>
  obtain ⟨t,rfl⟩:=rx
  cases y with
  | non=>cases ry; exact PySem.EqNone.eq_str_none (bB I q (by simp))
  | bl j=>cases ry; exact PySem.EqMixed.eq_str_bool (bB I q (by simp))
  | int j=>obtain ⟨t',rfl⟩:=ry; exact PySem.EqMixed.eq_str_int (bB I q (by simp))
  | str j=>obtain ⟨t',rfl⟩:=ry; exact eq_str (bB I q yH)
  | _=>exact absurd (show false=true from hs) Bool.false_ne_true
 | Il i=>
  obtain ⟨t,rfl⟩:=rx
  cases y with
  | Il j=>obtain ⟨t',rfl⟩:=ry; exact PySem.W.eq_bytes (bB I q Gu)
  | _=>exact absurd (show false=true from hs) Bool.false_ne_true
 | _=>cases y <;> exact absurd (show false=true from hs) Bool.false_ne_true
theorem Wi:gF X (compareOp .NotEq) rNe:=by
 intro pins s σ H x y v u Q I rx ry h
 obtain ⟨hs,q⟩:=h
 cases x with
 | non=>
  cases rx
  cases y with
  | non=>cases ry; exact PySem.EqNone.ne_none_none (bB I q (by simp))
  | bl j=>cases ry; exact PySem.EqNone.ne_none_bool (bB I q (by simp))
  | int j=>obtain ⟨t',rfl⟩:=ry; exact PySem.EqNone.ne_none_int (bB I q (by simp))
  | str j=>obtain ⟨t',rfl⟩:=ry; exact PySem.EqNone.ne_none_str (bB I q (by simp))
  | _=>exact absurd (show false=true from hs) Bool.false_ne_true
 | bl i=>
  cases rx
  cases y with
  | non=>cases ry; exact PySem.EqNone.ne_bool_none (bB I q (by simp))
  | bl j=>cases ry; exact ne_bool (bB I q (congrArg not Dz))
  | str j=>obtain ⟨t',rfl⟩:=ry; exact PySem.EqMixed.ne_bool_str (bB I q (by simp))
  | _=>exact absurd (show false=true from hs) Bool.false_ne_true
 | int i=>
  obtain ⟨t,rfl⟩:=rx
  cases y with
  | non=>cases ry; exact PySem.EqNone.ne_int_none (bB I q (by simp))
  | int j=>obtain ⟨t',rfl⟩:=ry; exact ne_int (bB I q (congrArg not yG))
  | str j=>obtain ⟨t',rfl⟩:=ry; exact PySem.EqMixed.ne_int_str (bB I q (by simp))
  | _=>exact absurd (show false=true from hs) Bool.false_ne_true
 | str i=>
  obtain ⟨t,rfl⟩:=rx
  cases y with
  | non=>cases ry; exact PySem.EqNone.ne_str_none (bB I q (by simp))
  | bl j=>cases ry; exact PySem.EqMixed.ne_str_bool (bB I q (by simp))
  | int j=>obtain ⟨t',rfl⟩:=ry; exact PySem.EqMixed.ne_str_int (bB I q (by simp))
  | str j=>obtain ⟨t',rfl⟩:=ry; exact ne_str (bB I q (congrArg not yH))
  | _=>exact absurd (show false=true from hs) Bool.false_ne_true
 | Il i=>
  obtain ⟨t,rfl⟩:=rx
  cases y with
  | Il j=>obtain ⟨t',rfl⟩:=ry; exact PySem.W.ne_bytes (bB I q (congrArg not Gu))
  | _=>exact absurd (show false=true from hs) Bool.false_ne_true
 | _=>cases y <;> exact absurd (show false=true from hs) Bool.false_ne_true
theorem Wj:gF X (compareOp .LtE) (Iz fun i j=>.bl (decide (i≤j))):=Tq fun _ _ _ _ _ _ _ q=>le_int q
theorem Rx:gF X (compareOp .Gt) (Iz fun i j=>.bl (decide (j < i))):=Tq fun _ _ _ _ _ _ _ q=>gt_int q
theorem Wk:gF X (compareOp .GtE) (Iz fun i j=>.bl (decide (j≤i))):=Tq fun _ _ _ _ _ _ _ q=>ge_int q
theorem Tu:gF X (compareOp .Is) (fun x y H Q=>y=.non∧Q (.bl (decide (x=.non))) H):=by
 intro pins s σ H x y v u Q I rx ry h
 obtain ⟨rfl,q⟩:=h
 cases ry
 refine is_none_gen (bB I q ?_)
 cases x <;> first
  | (cases rx; rfl)
  | (obtain ⟨t,rfl⟩:=rx; rfl)
theorem gF.or {f:Value→Value→Sem Value} {r r':R2} (h:gF X f r) (h':gF X f r'):gF X f (fun x y H Q=>r x y H Q∨r' x y H Q):=by
 intro pins s σ H x y v u Q I rx ry q
 rcases q with q | q
 ·exact h pins s σ H x y v u Q I rx ry q
 ·exact h' pins s σ H x y v u Q I rx ry q
theorem b8 (b:Expr) {op:CmpOp} (h:op≠.In:=by decide) (h2:op≠.NotIn:=by decide):behindInMarks op b=false:=by
 have e1:(op==CmpOp.In)=false:=by cases op <;> first | rfl | exact absurd rfl h
 have e2:(op==CmpOp.NotIn)=false:=by cases op <;> first | rfl | exact absurd rfl h2
 cases b <;> simp [behindInMarks,e1,e2]
theorem Pb {op:CmpOp} {r:R2} (ho:gF X (compareOp op) r) (ha:PE X a ta) (hb:PE X b tb) (hm:behindInMarks op b=false):PE X (.Compare a [op] [b] pos) (Wc r ta tb):=by
 intro pins s σ H Q I h
 exact wpAny_Compare1 (Tp ha hb I h fun v u s2 x y H2 I2 rx ry q=>ho pins s2 σ H2 x y v u Q I2 rx ry q) hm
noncomputable def Kz (t:TE):TT:=fun σ H Q=>t σ H fun x H'=>∃k,x=.bl k∧Q k H'
theorem Pg {op:CmpOp} {r:R2} (ho:gF X (compareOp op) r) (ha:PE X a ta) (hb:PE X b tb) (hm:behindInMarks op b=false):PT X (.Compare a [op] [b] pos) (Kz (Wc r ta tb)):=by
 intro pins s σ H Q I h
 refine wpAny_isTrue_Compare1 (cI (ha pins s σ H _ I h) fun v s1 ⟨x,H1,I1,r1,q1⟩=>cI (hb pins s1 σ H1 _ I1 q1) fun u s2 ⟨y,H2,I2,r2,q2⟩=>
  cI (ho pins s2 σ H2 x y v u _ I2 r1 r2 q2) fun c s3 ⟨z,H3,I3,r3,k,e,q3⟩=>?_) hm
 subst e
 cases r3
 exact wpAny_truthy_bool ⟨H3,I3,q3⟩
noncomputable def DG (r r':R2) (ta tb tc:TE):TE:=fun σ H Q=>ta σ H fun x H1=>tb σ H1 fun y H2=>r x y H2 fun z H3=>∃k,z=.bl k∧
 (if k=true then tc σ H3 fun w' H4=>r' y w' H4 Q else Q (.bl false) H3)
theorem KC {op op':CmpOp} {r r':R2} (ho:gF X (compareOp op) r) (ho':gF X (compareOp op') r') (ha:PE X a ta) (hb:PE X b tb) (hc:PE X c tc)
  (hm:lastMarks [op,op'] [b,c]=false:=by with_unfolding_all rfl):PE X (.Compare a [op,op'] [b,c] pos) (DG r r' ta tb tc):=by
 intro pins s σ H Q I h
 refine Compare_chain (cI (ha pins s σ H _ I h) fun v s1 ⟨x,H1,I1,r1,q1⟩=>chain_link (cI (hb pins s1 σ H1 _ I1 q1) fun u s2 ⟨y,H2,I2,r2,q2⟩=>
  cI (ho pins s2 σ H2 x y v u _ I2 r1 r2 q2) fun d s3 ⟨z,H3,I3,r3,k,e,q3⟩=>?_)) hm
 subst e
 cases r3
 refine wpAny_truthy_bool ?_
 cases k with
 | false=>exact ite_ff ⟨.bl false,H3,I3,rfl,q3⟩
 | true=>exact ite_tt (chain_last (cI (hc pins s3 σ H3 _ I3 q3) fun w' s4 ⟨z',H4,I4,r4,q4⟩=>ho' pins s4 σ H4 y z' u w' Q I4 r2 r4 q4))
theorem KD {op op':CmpOp} {r r':R2} (ho:gF X (compareOp op) r) (ho':gF X (compareOp op') r') (ha:PE X a ta) (hb:PE X b tb) (hc:PE X c tc)
  (hm:lastMarks [op,op'] [b,c]=false:=by with_unfolding_all rfl):PT X (.Compare a [op,op'] [b,c] pos) (Kz (DG r r' ta tb tc)):=by
 intro pins s σ H Q I h
 refine isTrue_chain (cI (ha pins s σ H _ I h) fun v s1 ⟨x,H1,I1,r1,q1⟩=>test_link (cI (hb pins s1 σ H1 _ I1 q1) fun u s2 ⟨y,H2,I2,r2,q2⟩=>
  cI (ho pins s2 σ H2 x y v u _ I2 r1 r2 q2) fun d s3 ⟨z,H3,I3,r3,k,e,q3⟩=>?_)) hm
 subst e
 cases r3
 refine wpAny_truthy_bool ?_
 cases k with
 | false=>
  obtain ⟨k',e',q'⟩:=q3
  cases e'
  exact ite_ff ⟨H3,I3,q'⟩
 | true=>
  refine ite_tt (test_last (cI (hc pins s3 σ H3 _ I3 q3) fun w' s4 ⟨z',H4,I4,r4,q4⟩=>cI (ho' pins s4 σ H4 y z' u w' _ I4 r2 r4 q4) fun d' s5 aP=>?_))
  obtain ⟨z2,H5,I5,r5,k2,e2,q5⟩:=aP
  subst e2
  cases r5
  exact wpAny_truthy_bool ⟨H5,I5,q5⟩
noncomputable def Tv (K:PySem.W.Frag) (x:V) (H:Hp) (k:Bool):Prop:=
 match x with
 | .non=>k=false
 | .bl b=>k=b
 | .int i=>k=(i != 0)
 | .str y=>y.length≤sizeLine∧k=((y.length:Int) != 0)
 | .Il y=>y.size≤sizeLine∧k=((y.size:Int) != 0)
 | .ref p=>(∃xs,cZ K H p xs∧k=!xs.isEmpty)∨(∃xs,ig K H p xs∧k=!xs.isEmpty)∨∃kvs,H p=some (.dK kvs)∧k=!kvs.isEmpty
 | _=>False
theorem DK {κ:Type} {kvs:List (κ×V)} {vs:List (κ×Value)} (r:KV kvs vs):(!vs.isEmpty)=!kvs.isEmpty:=by
 cases r <;> rfl
theorem ug {xs:List V} {its:List Value} (r:Vals xs its):(!its.toArray.isEmpty)=!xs.isEmpty:=by
 cases r <;> simp
theorem pB:(sizeLine:Nat) < 2 ^ 63:=by rw [sizeLine_eq]; decide
theorem Tw:Y6 X (fun x H Q=>∃k,Tv X.K x H k∧Q k H):=by
 intro pins s σ H x v Q I rx h
 obtain ⟨k,e,q⟩:=h
 have hl:=pB
 have hs:sizeLine=16777216:=sizeLine_eq
 cases x with
 | non=>
  cases rx
  have e':k=false:=e
  subst e'
  exact truthy_none ⟨H,I,q⟩
 | bl b=>
  cases rx
  have e':k=b:=e
  subst e'
  exact wpAny_truthy_bool ⟨H,I,q⟩
 | int i=>
  obtain ⟨t,rfl⟩:=rx
  have e':k=(i != 0):=e
  subst e'
  exact PySem.P.truthy_int ⟨H,I,q⟩
 | str y=>
  obtain ⟨t,rfl⟩:=rx
  obtain ⟨hy,e'⟩:y.length≤sizeLine∧k=((y.length:Int) != 0):=e
  subst e'
  exact PySem.P.truthy_str (by omega) ⟨H,I.tok _,q⟩
 | Il y=>
  obtain ⟨t,rfl⟩:=rx
  obtain ⟨hy,e'⟩:y.size≤sizeLine∧k=((y.size:Int) != 0):=e
  subst e'
  exact PySem.W.truthy_bytes (by omega) ⟨H,I.tok _,q⟩
 | ref p=>
  cases rx
  have e':(∃xs,cZ X.K H p xs∧k=!xs.isEmpty)∨(∃xs,ig X.K H p xs∧k=!xs.isEmpty)∨∃kvs,H p=some (.dK kvs)∧k=!kvs.isEmpty:=e
  rcases e' with ⟨xs,hx,e'⟩ | ⟨xs,hx,e'⟩ | ⟨kvs,hx,e'⟩
  ·subst e'
   obtain ⟨its,r,pl,hz⟩:=I.list hx
   have hlen:=r.length
   exact wpAny_truthy_list pl.isList (by simp only [List.size_toArray]; omega) ⟨H,I.tok _,by rw [ug r]; exact q⟩
  ·subst e'
   obtain ⟨its,r,pl,hz⟩:=I.tuple hx
   have hlen:=r.length
   exact truthy_tuple pl (by simp only [List.size_toArray]; omega) ⟨H,I.tok _,by rw [ug r]; exact q⟩
  ·subst e'
   obtain ⟨hz,hS,vs,r,m⟩:kvs.length≤sizeLine∧(p==sysModules)=false∧∃vs,KV kvs vs∧s.heap.DictOf (cj X.prog X.w) p vs:=I.hok p _ hx
   have hlen:kvs.length=vs.length:=Paired.length r
   exact wpAny_truthy_dict hS m (by omega) ⟨H,I.tok _,by rw [DK r]; exact q⟩
 | _=>exact (show False from e).elim
theorem KH (ha:PE X a ta) (he:∀whole,isTrue a X.env whole=(do let v ←whole; standAt a.pos; holding [v] (truthy v))):
  PT X a (fun σ H Q=>ta σ H fun x H'=>∃k,Tv X.K x H' k∧Q k H'):=by
 intro pins s σ H Q I h
 exact isTrue_plain (cI (ha pins s σ H _ I h) fun v s1 ⟨x,H1,I1,r1,q1⟩=>Tw pins s1 σ H1 x v Q I1 r1 q1) (he _)
theorem DN:gF X (binaryOp .Add) (fun x y H Q=>∃i j,x=.str i∧y=.str j∧i.length + j.length≤sizeLine∧Q (.str (i++j)) H):=by
 intro pins s σ H x y v u Q I rx ry h
 obtain ⟨i,j,rfl,rfl,hz,q⟩:=h
 obtain ⟨t,rfl⟩:=rx
 obtain ⟨t',rfl⟩:=ry
 exact add_str (fun t' tk=>⟨.str (i++j),H,I.tok _,⟨_,rfl⟩,q⟩) hz
theorem vals1 {x:V} {us:List Value} (r:Vals [x] us):∃u,us=[u]∧RelV x u:=by
 cases r with
 | cons r1 r2=>cases r2; exact ⟨_,rfl,r1⟩
theorem vals2 {x y:V} {us:List Value} (r:Vals [x,y] us):∃u w',us=[u,w']∧RelV x u∧RelV y w':=by
 cases r with
 | cons r1 r2=>
  cases r2 with
  | cons r3 r4=>cases r4; exact ⟨_,_,rfl,r1,r3⟩
theorem Aj:dZ X (.builtin "abs") (fun xs H Q=>∃i,xs=[.int i]∧Q (.int (if i < 0 then -i else i)) H):=by
 intro pins s σ H xs us Q I r h
 obtain ⟨i,rfl,q⟩:=h
 obtain ⟨u,rfl,t,rfl⟩:=vals1 r
 exact call_abs_int fun u tk=>⟨.int (if i < 0 then -i else i),H,I.tok _,⟨_,rfl⟩,q⟩
theorem IK (hc:X.calm=true):dZ X (.builtin "min") (fun xs H Q=>∃i j,xs=[.int i,.int j]∧Q (.int (if j < i then j else i)) H):=by
 intro pins s σ H xs us Q I r h
 obtain ⟨i,j,rfl,q⟩:=h
 obtain ⟨u,w',rfl,⟨t,rfl⟩,⟨t',rfl⟩⟩:=vals2 r
 refine min_two_ints (I.ok.hd hc) fun h' tk k=>⟨_,H,I.kept k,?_,q⟩
 by_cases hj:j < i
 ·rw [if_pos hj,if_pos hj]; exact ⟨_,rfl⟩
 ·rw [if_neg hj,if_neg hj]; exact ⟨_,rfl⟩
theorem wV:dZ X (.type "int") (fun xs H Q=>(∃i,xs=[.int i]∧Q (.int i) H)∨∃k,xs=[.bl k]∧Q (.int (if k then 1 else 0)) H):=by
 intro pins s σ H xs us Q I r h
 rcases h with ⟨i,rfl,q⟩ | ⟨k,rfl,q⟩
 ·obtain ⟨u,rfl,t,rfl⟩:=vals1 r
  exact call_int_int ⟨.int i,H,I,⟨_,rfl⟩,q⟩
 ·obtain ⟨u,rfl,r1⟩:=vals1 r
  cases r1
  exact call_int_bool ⟨.int (if k then 1 else 0),H,I.tok _,⟨_,rfl⟩,q⟩
end
end L2
namespace L2
open PySem PySem.Spec PyProof.Rows
structure Tz (h:Heap) (x dx C:Addr) (mA:Str→Option Value):Prop where
 obj:h.get? x=some (PySem.W.instObj C dx)
 ns:h.Ns1 dx mA
 ne:dx≠x
theorem IV {h:Heap} {dx:Addr} {mA:Str→Option Value} (n:h.Ns1 dx mA):∃od,h.get? dx=some od∧∀name,PySem.W.lookIn name od=some (mA name):=by
 obtain ⟨o,es,ep,ho,hd,hk,_,hm⟩:=n
 refine ⟨o,ho,fun name=>?_⟩
 have e:=hm name
 unfold nsFind findBy at e
 rw [←Array.find?_toList] at e
 unfold PySem.W.lookIn
 rw [hd]
 dsimp only
 split
 ·rename_i y q
  rw [q] at e
  exact congrArg some e
 ·rename_i q
  rw [q] at e
  have a:es.toList.any (·.refKey)=false:=by
   rw [List.any_eq_false]
   intro y hy
   obtain ⟨z,t,hkey⟩:=hk y (Array.mem_toList_iff.mp hy)
   simp [DictEntry.refKey,hkey]
  have a':¬es.toList.any (·.refKey)=true:=by rw [a]; exact Bool.false_ne_true
  rw [if_neg a']
  exact congrArg some e
theorem Tz.look {h:Heap} {x dx C:Addr} {mA:Str→Option Value} (I:Tz h x dx C mA):∃od,PySem.W.InstAt h x (PySem.W.instObj C dx) C (some od)∧∀name,PySem.W.lookIn name od=some (mA name):=
 let ⟨od,ho,hl⟩:=IV I.ns
 ⟨od,⟨I.obj,rfl,rfl,ho⟩,hl⟩
section
variable {prog:Program} {w:World} {A:Around} {E:Value→Shared→Prop} {s:Shared} {K:PySem.W.Frag} {x dx C f:Addr} {mA:Str→Option Value} {name:Str} {v:Value}
end
theorem qX.some_of {v:V} {o:Option Value} (r:qX (some v) o):∃u,o=some u∧RelV v u:=by
 cases o with
 | none=>exact (show False from r).elim
 | some u=>exact ⟨u,rfl,r⟩
section
variable {P:Program} {w:World} {H H':Hp} {h h':Heap} {a C dx:Addr} {fs fs':List (Str×V)}
theorem Gv (hok:pQ P w H h) (e:H a=some (.ins C dx fs)):∃mA,Tz h a dx C mA∧(∀f,qX (fs.lookup f) (mA f))∧PySem.Within mA (fs.map (·.1))∧fs.length≤1000∧H dx=some (.own a):=by
 obtain ⟨d,z,ne,ob,mA,n,r,q⟩:=(show bW P w H h a (.ins C dx fs) from hok a _ e)
 exact ⟨mA,⟨ob,n,ne⟩,r,q,z,d⟩
end
structure Y7 (K:PySem.W.Frag) (C:Addr):Prop where
 pg:PySem.W.plainGet K C Str.empty=true
 hd:PySem.W.hasDictIn K C=true
 po:PySem.W.plainOver K C=true
 sa:PySem.W.findIn K (.ref C) "__setattr__"=some (some (.builtin "object.__setattr__"))
theorem Y7.get {K:PySem.W.Frag} {C:Addr} (c:Y7 K C) (f:Str):PySem.W.plainGet K C f=true:=c.pg
noncomputable def KJ (K:PySem.W.Frag) (C:Addr) (f:Str):Prop:=PySem.W.findIn K (.ref C) f=some none
theorem KJ.taker {K:PySem.W.Frag} {C:Addr} {f:Str} (n:KJ K C f):PySem.W.takerIn K C f=some none:=by
 unfold PySem.W.takerIn
 rw [show PySem.W.findIn K (.ref C) f=some none from n]
 rfl
structure Con (K:PySem.W.Frag) (C:Addr) (f:Str) (v:V) (u:Value):Prop where
 at_:PySem.W.findIn K (.ref C) f=some (some u)
 rel:RelV v u
 get:PySem.W.specialIn K u "__get__"=some none
 cp:PySem.W.copiedNames.contains f=false
structure Meth (K:PySem.W.Frag) (C:Addr) (m:Str) (f:Addr):Prop where
 at_:PySem.W.findIn K (.ref C) m=some (some (.ref f))
 fn:PySem.W.isFn K (.ref f)=true
 kp:PySem.W.keepIn K (.ref f)=true
section
variable {X:Cx} {pins:List (Addr×Obj)} {σ:St} {H:Hp} {s:Shared} {a C dx:Addr} {fs:List (Str×V)} {f:Str} {v:V} {A:Around} {E:Value→Shared→Prop}
end
section
variable {X:Cx} {o e value:Expr} {f:Str} {pos pos' tpos:Pos} {ta tv:TE}
end
section
variable {X:Cx} {pins:List (Addr×Obj)} {σ:St} {H:Hp} {s:Shared} {A:Around} {E:Value→Shared→Prop} {Q:Value→Shared→Prop} {c:Value} {b:Bool}
inductive mR (K:PySem.W.Frag) (H:Hp):V→Value→Prop where
 | non:mR K H .non (.type "NoneType")
 | bl (x:Bool):mR K H (.bl x) (.type "bool")
 | int (i:Int):mR K H (.int i) (.type "int")
 | str (x:Str):mR K H (.str x) (.type "str")
 | flt (x:UInt64):mR K H (.flt x) (.type "float")
 | lst {a:Addr} {xs:List V} (e:H a=some (.lst xs)):mR K H (.ref a) (.type "list")
 | Ad {a:Addr} {o:Obj} {xs:List V} (e:H a=some (.Ad o (.lst xs))):mR K H (.ref a) (.type "list")
 | tup {a:Addr} {xs:List V} (e:H a=some (.tup xs)):mR K H (.ref a) (.type "tuple")
 | dK {a:Addr} {kvs:List (Key×V)} (e:H a=some (.dK kvs)):mR K H (.ref a) (.type "dict")
 | dT {a:Addr} {kvs:List (List Key×V)} (e:H a=some (.dT kvs)):mR K H (.ref a) (.type "dict")
 | ins {a C dx:Addr} {fs:List (Str×V)} (e:H a=some (.ins C dx fs)) (cl:Y7 K C) (ha:PySem.W.findIn K (.ref C) "__class__"=some (some (.builtin "object.__class__")))
   (hn:PySem.W.specialIn K (.builtin "object.__class__") "__get__"=some (some (.builtin "getset_descriptor.__get__"))) (htk:PySem.W.takesIn K (.builtin "object.__class__")=some true)
   (hm:PySem.W.mroIn K C (.type "object")=some true):mR K H (.ref a) (.ref C)
theorem IW {x:V} {u t:Value} (I:Inv X pins σ H s) (rx:RelV x u) (ty:mR X.K H x t) (e:PySem.W.kitOne X.K t c=some b) (h:∀tk,Q (.bool b) { s with toks:=tk }):
  wpAny (model X.prog X.w) A (call (.builtin "isinstance") [u,c]) Q E s:=by
 cases ty with
 | non=>cases (show u=Value.none from rx); exact PySem.W.kia_one PySem.W.kitx_none I.qW True.intro e (fun z=>nomatch z) h
 | bl y=>cases (show u=Value.bool y from rx); exact PySem.W.kia_one PySem.W.kitx_bool I.qW True.intro e (fun z=>nomatch z) h
 | int i=>obtain ⟨t,q⟩:=(show ∃t,u=Value.int i t from rx); cases q; exact PySem.W.kia_one PySem.W.kitx_int I.qW True.intro e (fun z=>nomatch z) h
 | str y=>obtain ⟨t,q⟩:=(show ∃t,u=Value.str y t from rx); cases q; exact PySem.W.kia_one PySem.W.kitx_str I.qW True.intro e (fun z=>nomatch z) h
 | flt y=>obtain ⟨t,q⟩:=(show ∃t,u=Value.float y t from rx); cases q; exact PySem.W.kia_one PySem.W.kitx_float I.qW True.intro e (fun z=>nomatch z) h
 | @lst a xs ea=>
  cases (show u=Value.ref a from rx)
  obtain ⟨_,_,n,_,h1⟩:=(show bW X.prog X.w H s.heap a (.lst xs) from I.hok a _ ea)
  exact PySem.W.kia_one PySem.W.kitx_list I.qW ⟨_,h1,rfl⟩ e (fun z=>nomatch z) h
 | @Ad a ob xs ea=>
  cases (show u=Value.ref a from rx)
  obtain ⟨_,_,_,n,_,h1⟩:=(show bW X.prog X.w H s.heap a (.Ad ob (.lst xs)) from I.hok a _ ea)
  exact PySem.W.kia_one PySem.W.kitx_list I.qW ⟨_,h1,rfl⟩ e (fun z=>nomatch z) h
 | @tup a xs ea=>
  cases (show u=Value.ref a from rx)
  obtain ⟨_,_,_,p⟩:=(show bW X.prog X.w H s.heap a (.tup xs) from I.hok a _ ea)
  obtain ⟨o,h1,h2,_⟩:=p
  exact PySem.W.kia_one PySem.W.kitx_tuple I.qW ⟨o,h1,h2⟩ e (fun z=>nomatch z) h
 | @dK a kvs ea=>
  cases (show u=Value.ref a from rx)
  obtain ⟨_,_,vs,_,p⟩:=(show bW X.prog X.w H s.heap a (.dK kvs) from I.hok a _ ea)
  obtain ⟨o,es,ep,h1,h2,_⟩:=p
  exact PySem.W.kia_one PySem.W.kitx_dict I.qW ⟨o,h1,h2.1⟩ e (fun z=>nomatch z) h
 | @dT a kvs ea=>
  cases (show u=Value.ref a from rx)
  obtain ⟨_,_,xs,_,o,es,ep,h1,h2,_⟩:=(show bW X.prog X.w H s.heap a (.dT kvs) from I.hok a _ ea)
  exact PySem.W.kia_one PySem.W.kitx_dict I.qW ⟨o,h1,h2.1⟩ e (fun z=>nomatch z) h
 | @ins a C dx fs ea cl ha hn htk hm=>
  cases (show u=Value.ref a from rx)
  obtain ⟨mA,O,_⟩:=Gv I.hok ea
  obtain ⟨od,J,_⟩:=O.look
  exact PySem.W.kia_one (PySem.W.kitx_own (cl.get _) cl.hd ha hn htk hm) I.qW J e (fun z=>nomatch z) h
end
end L2
namespace L2
open PySem PySem.Spec PyProof.Rows
structure gm (k:Nat) (A:Around):Prop where
 hd:A.handled=none
 dp:A.depth + 3 * k + 5 < recursionLimit
 un:A.units + 16 * k + 200 < cLine
 gd:A.guards=some []
theorem gm.mono {j k:Nat} {A:Around} (r:gm k A) (h:j≤k):gm j A:=⟨r.hd,by have:=r.dp; omega,by have:=r.un; omega,r.gd⟩
theorem gm.deeper {k:Nat} {A:Around} (r:gm (k + 1) A) (env:Env):gm k (A.deeper env):=
 ⟨r.hd,by have:=r.dp; show A.depth + 1 + 3 * k + 5 < _; omega,by have:=r.un; show A.units + 3 + 16 * k + 200 < _; omega,r.gd⟩
theorem gm.in1 {k:Nat} {A:Around} (r:gm (k + 1) A):gm k A.in1:=
 ⟨r.hd,by have:=r.dp; show A.depth + 3 * k + 5 < _; omega,by have:=r.un; show A.units + 1 + 16 * k + 200 < _; omega,r.gd⟩
theorem gm.depth {k:Nat} {A:Around} (r:gm k A):A.depth < recursionLimit:=by have:=r.dp; omega
theorem gm.units {k:Nat} {A:Around} (r:gm k A):A.units + 64 < cLine:=by have:=r.un; omega
theorem gm.DP {k:Nat} {A:Around} (r:gm k A):A.units < cLine:=by have:=r.un; omega
noncomputable def Y8:TA:=fun _ H Q=>Q [] H
noncomputable def Wl (ta:TE) (tr:TA):TA:=fun σ H Q=>ta σ H fun x H1=>tr σ H1 fun xs H2=>Q (x::xs) H2
section
variable {X:Cx} {e:Expr} {es:List Expr} {te:TE} {t:TA} {pos:Pos}
theorem iM:PA X [] Y8:=fun _ _ _ _ H Q I h=>Calls.spliced_nil ⟨[],H,I,.nil,h⟩
theorem dz (ha:PE X e te) (hr:PA X es t) (hs:starEach (e::es) X.env=(false,eval e X.env)::starEach es X.env:=by rfl):PA X (e::es) (Wl te t):=by
 intro pos pins s σ H Q I h
 rw [hs]
 show wpAny _ _ (spliced ((false,eval e X.env)::backTo pos (starEach es X.env))) _ _ s
 refine Calls.spliced_cons (cI (ha pins s σ H _ I h) fun u s1 aP=>?_)
 obtain ⟨x,H1,I1,r1,q1⟩:=aP
 exact cI (hr pos pins s1 σ H1 _ I1 q1) fun us s2 ⟨xs,H2,I2,r2,q2⟩=>⟨x::xs,H2,I2,.cons r1 r2,q2⟩
noncomputable def Y9 (t:TA):TE:=fun σ H Q=>t σ H fun xs H1=>xs.length≤sizeLine∧∀p,H1 p=none→Q (.ref p) (upd H1 p (.tup xs))
noncomputable def Za (t:TA):TE:=fun σ H Q=>t σ H fun xs H1=>xs.length≤sizeLine∧∀p,H1 p=none→Q (.ref p) (upd H1 p (.lst xs))
theorem DQ {x1} (h:PA X es t):PE X (.Tuple es x1 pos) (Y9 t):=by
 intro pins s σ H Q I hq
 refine wpAny_Tuple_spliced (cI (h pos pins s σ H _ I hq) fun us s1 ⟨xs,H1,I1,r,z,q⟩=>⟨by rw [←r.length]; exact z,?_⟩)
 have hf:H1 s1.heap.objs.size=none:=I1.hok.fresh (Nat.le_refl _)
 refine ⟨.ref s1.heap.objs.size,upd H1 s1.heap.objs.size (.tup xs),I1.laid (t':=s1.toks) (fun b u e=>Heap.get?_push_of_some _ e) (Nat.le_refl _) ?_,rfl,q _ hf⟩
 exact ⟨z,us,r,⟨_,Heap.get?_push_size _ rfl,rfl,_,rfl⟩⟩
theorem TF (h:PA X es t):PE X (.List es pos) (Za t):=by
 intro pins s σ H Q I hq
 refine wpAny_List_spliced (cI (h pos pins s σ H _ I hq) fun us s1 ⟨xs,H1,I1,r,z,q⟩=>⟨by rw [←r.length]; exact z,?_⟩)
 have hf:H1 s1.heap.objs.size=none:=I1.hok.fresh (Nat.le_refl _)
 refine ⟨.ref s1.heap.objs.size,upd H1 s1.heap.objs.size (.lst xs),I1.laid (t':=s1.toks) (fun b u e=>Heap.get?_push_of_some _ e) (Nat.le_refl _) ?_,rfl,q _ hf⟩
 exact ⟨z,us,0,r,Heap.get?_push_size _ rfl⟩
end
noncomputable abbrev Sp:=List V→Hp→VK→XK→Prop
noncomputable abbrev I9:=List Env→Hp→Shared→XK→Value→Shared→Prop
structure DR (P:Program) (w:World) (K:PySem.W.Frag) (mg:Str→Option Value) (base:Heap) (A:Around) (outer:List Env) (s:Shared) (H:Hp):Prop where
 frames:A.frames=some outer
 mod:Mod K mg base
 bs:∀b o,base.get? b=some o→s.heap.get? b=some o∧H b=none
 Ox:base.objs.size≤s.heap.objs.size
 sX:s.heap.FunFrames base outer
 SM:∀b∈frs outer,H b=none
 hok:pQ P w H s.heap
 bare:AllBare s.gens
noncomputable def CE (outer:List Env) (P:Program) (w:World) (H:Hp) (s:Shared) (Q:VK) (u:Value) (s':Shared):Prop:=
 ∃v H',s'.os=s.os∧AllBare s'.gens∧Un (frs outer) [] H H' s.heap s'.heap∧pQ P w H' s'.heap∧RelV v u∧Q v H'
noncomputable def CR (CX:I9) (outer:List Env) (P:Program) (w:World) (H:Hp) (s:Shared) (Q:VK) (E:XK) (r:Result) (s':Shared):Prop:=
 match r with
 | .ok (.ret u)=>CE outer P w H s Q u s'
 | .ok _=>False
 | .error e=>CX outer H s E e s'
structure dG (P:Program) (w:World) (K:PySem.W.Frag) (mg:Str→Option Value) (base:Heap) (CX:I9) (k:Nat) (f:Addr) (fd:FuncData) (ps:List Str) (sp:Sp):Prop where
 len:∀vs H Q E,sp vs H Q E→vs.length=ps.length
 run:∀(A:Around) (outer:List Env) (s:Shared) (H:Hp) (args:Args) (us:List Value) (vs:List V) (Q:VK) (E:XK),gm k A→DR P w K mg base A outer s H→BindsTo s fd args (ps.zip us)→Vals vs us→sp vs H Q E→
  codeAny (model P w) A (.call (.ref f) args) (CR CX outer P w H s Q E) s
theorem dG.mono {P:Program} {w:World} {K:PySem.W.Frag} {mg:Str→Option Value} {base:Heap} {CX:I9} {j k:Nat} {f:Addr} {fd:FuncData} {ps:List Str} {sp:Sp} (F:dG P w K mg base CX j f fd ps sp) (h:j≤k):
  dG P w K mg base CX k f fd ps sp:=⟨F.len,fun A outer s H args us vs Q E hr=>F.run A outer s H args us vs Q E (hr.mono h)⟩
theorem dG.imp {P:Program} {w:World} {K:PySem.W.Frag} {mg:Str→Option Value} {base:Heap} {CX:I9} {k:Nat} {f:Addr} {fd:FuncData} {ps:List Str} {sp sp':Sp} (F:dG P w K mg base CX k f fd ps sp)
  (h:∀vs H Q E,sp' vs H Q E→sp vs H Q E):dG P w K mg base CX k f fd ps sp':=
 ⟨fun vs H Q E q=>F.len vs H Q E (h _ _ _ _ q),fun A outer s H args us vs Q E hr he hb hv hs=>F.run A outer s H args us vs Q E hr he hb hv (h _ _ _ _ hs)⟩
theorem DR.in1 {P:Program} {w:World} {K:PySem.W.Frag} {mg:Str→Option Value} {base:Heap} {A:Around} {outer:List Env} {s:Shared} {H:Hp} (e:DR P w K mg base A outer s H):
  DR P w K mg base A.in1 outer s H:=⟨e.frames,e.mod,e.bs,e.Ox,e.sX,e.SM,e.hok,e.bare⟩
section
variable {X:Cx} {pins:List (Addr×Obj)} {σ:St} {H:Hp} {s s':Shared}
theorem Inv.env0 (I:Inv X pins σ H s):DR X.prog X.w X.K X.mg X.base X.A X.stack s H:=
 ⟨I.ok.frames,I.ok.mod,I.bs,Nat.le_trans I.ok.Ox I.sz,I.stack,I.Gp,I.hok,I.bare⟩
theorem Inv.after {Q:VK} {u:Value} (I:Inv X pins σ H s) (h:CE X.stack X.prog X.w H s Q u s'):EP X pins σ Q u s':=by
 obtain ⟨v,H',os,bare,un,hok,r,q⟩:=h
 obtain ⟨hh,g,d,t,os'⟩:=s'
 obtain rfl:os'=s.os:=os
 exact ⟨v,H',I.call (h':=hh) (g':=g) (d':=d) (t':=t) (ch:=[]) un hok bare (fun b z=>absurd z (by simp)),r,q⟩
end
noncomputable def KN (sp:Sp) (Ry:List V) (E:XK) (t:TA):TE:=fun σ H Q=>t σ H fun vs H1=>sp (vs++Ry) H1 Q E
noncomputable def Binds (K:PySem.W.Frag) (fd:FuncData) (ps:List Str) (ds:List Value):Prop:=
 ∀(s:Shared) (us:List Value),K.In s.heap→(us++ds).length=ps.length→BindsTo s fd ⟨us,[]⟩ (ps.zip (us++ds))
theorem Binds.all {K:PySem.W.Frag} {fd:FuncData} {ps:List Str} (h:∀us:List Value,us.length=ps.length→bindArgs fd ⟨us,[]⟩=pure (ps.zip us)):Binds K fd ps []:=fun s us _ hl=>by
 rw [List.append_nil] at hl ⊢
 exact .of_eq (h us hl)
noncomputable def Passes (CX:I9) (X:Cx) (E:XK):Prop:=∀(pins:List (Addr×Obj)) (σ:St) (H:Hp) (s:Shared) (e:Value) (s':Shared),Inv X pins σ H s→CX X.stack H s E e s'→X.xe e s'
section
variable {X:Cx} {CX:I9} {k:Nat} {f C:Addr} {fd:FuncData} {ps:List Str} {sp:Sp} {Ry:List V} {ds:List Value} {E:XK} {x m:Str} {p pos apos:Pos} {e o:Expr} {es:List Expr} {ta:TE} {t:TA}
theorem TJ {pins:List (Addr×Obj)} {σ:St} {H:Hp} {s:Shared} {Q:VK} {us:List Value} {vs:List V} (F:dG X.prog X.w X.K X.mg X.base CX k f fd ps sp) (hr:gm k X.A) (hb:Binds X.K fd ps ds) (hd:Vals Ry ds) (hx:Passes CX X E)
  (I:Inv X pins σ H s) (r:Vals vs us) (h:sp (vs++Ry) H Q E):wpAny (model X.prog X.w) X.A (call (.ref f) us) (EP X pins σ Q) X.xe s:=by
 have r2:Vals (vs++Ry) (us++ds):=r.append hd
 have hl:(us++ds).length=ps.length:=by rw [←r2.length]; exact F.len _ _ _ _ h
 refine wpAny_call (codeAny_mono (F.run X.A X.stack s H ⟨us,[]⟩ (us++ds) (vs++Ry) Q E hr I.env0 (hb s us I.qW hl) r2 h) fun r s' hq=>?_)
 cases r with
 | error e=>exact hx pins σ H s e s' I hq
 | ok fl=>
  cases fl with
  | ret u=>exact I.after hq
  | next=>exact False.elim hq
  | brk=>exact False.elim hq
  | cont=>exact False.elim hq
theorem Ph (F:dG X.prog X.w X.K X.mg X.base CX k f fd ps sp) (hr:gm k X.A) (hg:Gl X x) (hm:X.mg x=some (.ref f)) (hk:PySem.W.keepIn X.K (.ref f)=true) (hb:Binds X.K fd ps ds) (hd:Vals Ry ds) (hx:Passes CX X E)
  (ha:PA X (e::es) t) (hdb:(x==("__debug__":Str))=false:=by decide) (he:starEach (e::es) X.env=(false,eval e X.env)::starEach es X.env:=by rfl) (hpl:(backTo pos (starEach es X.env)).any (·.1)=false:=by rfl):
  PE X (.Call (.Name x p) (e::es) [] pos) (KN sp Ry E t):=by
 intro pins s σ H Q I h
 refine wpAny_Call_Name_kw (O5 I hg hm ?_ hdb)
 refine PySem.W.callWith_K (h₀:=X.base) I.ok.mod.YF hk (cI (ha pos pins s σ H _ I h) fun us s1 ⟨vs,H1,I1,r,q⟩=>⟨I1.qW,?_⟩) he hpl
 exact TJ F hr hb hd hx I1 r q
structure Mk (K:PySem.W.Frag) (C f:Addr):Prop where
 makes:PySem.W.makesIn K C=true
 init:PySem.W.findIn K (.ref C) "__init__"=some (some (.ref f))
 fn:PySem.W.isFn K (.ref f)=true
 kp:PySem.W.keepIn K (.ref C)=true
end
section
variable {X:Cx} {CX:I9} {k:Nat} {f C:Addr} {fd:FuncData} {ps ks:List Str} {sp:Sp} {E:XK} {x m:Str} {p pos apos kpos:Pos} {e o:Expr} {es:List Expr} {kws:List Keyword} {te ta:TE} {t tk:TA} {nm:Option Str}
structure Zb (K:PySem.W.Frag) (fd:FuncData) (ps ks:List Str) (g:List Value→List Value→List Value) (gV:List V→List V→List V):Prop where
 to:∀(s:Shared) (us ws:List Value),K.In s.heap→(g us ws).length=ps.length→BindsTo s fd ⟨us,ks.zip ws⟩ (ps.zip (g us ws))
 rel:∀{vs:List V} {us:List Value} {zs:List V} {ws:List Value},Vals vs us→Vals zs ws→Vals (gV vs zs) (g us ws)
variable {g:List Value→List Value→List Value} {gV:List V→List V→List V}
end
structure bV (N P:List Str) (sc:Scope):Prop where
 kind:sc.kind=.function
 co:sc.isCoroutine=false
 gen:sc.isGenerator=false
 nd:N.Nodup
 pre:N.take P.length=P
 par:∀x∈P,sc.names.lookup x=some .local∨sc.names.lookup x=some .cell
 TQ:∀y∈sc.names,y.2≠.free
theorem wW {kindOf:Str→Option NameKind} {x:Str}:∀{binds:List (Str×Value)} {m:Str→Option Value},(∀v,(x,v)∉binds)→bindL kindOf binds m x=m x
 | [],_,_=>rfl
 | (n,v)::r,m,h=>by
  unfold bindL
  rw [wW fun w hw=>h w (List.mem_cons_of_mem _ hw)]
  split
  ·have:x≠n:=by rintro rfl; exact h v List.mem_cons_self
   simp [this]
  ·rfl
theorem wX {kindOf:Str→Option NameKind} {x:Str}:∀{binds:List (Str×Value)} {m:Str→Option Value},(∀v,(x,v)∉binds)→bindC kindOf binds m x=m x
 | [],_,_=>rfl
 | (n,v)::r,m,h=>by
  unfold bindC
  rw [wX fun w hw=>h w (List.mem_cons_of_mem _ hw)]
  split
  ·rfl
  ·have:x≠n:=by rintro rfl; exact h v List.mem_cons_self
   simp [this]
theorem wY {kindOf:Str→Option NameKind} {x:Str} {v:Value}:∀{P:List Str} {vs:List Value} {i:Nat} {m:Str→Option Value},P.Nodup→P[i]?=some x→vs[i]?=some v→kindOf x=some .local→
  bindL kindOf (P.zip vs) m x=some v
 | [],_,_,_,_,h,_,_=>by simp at h
 | _::_,[],_,_,_,_,h,_=>by simp at h
 | p::P,w::vs,0,m,nd,h1,h2,hk=>by
  simp at h1 h2; subst h1; subst h2
  show bindL kindOf ((p,w)::P.zip vs) m p=_
  unfold bindL
  rw [wW fun v hv=>(List.nodup_cons.mp nd).1 (List.of_mem_zip hv).1,if_pos hk]
  simp
 | p::P,w::vs,i + 1,m,nd,h1,h2,hk=>by
  show bindL kindOf ((p,w)::P.zip vs) m x=_
  unfold bindL
  exact wY (i:=i) (List.nodup_cons.mp nd).2 (by simpa using h1) (by simpa using h2) hk
theorem wZ {kindOf:Str→Option NameKind} {x:Str} {v:Value}:∀{P:List Str} {vs:List Value} {i:Nat} {m:Str→Option Value},P.Nodup→P[i]?=some x→vs[i]?=some v→kindOf x≠some .local→
  bindC kindOf (P.zip vs) m x=some v
 | [],_,_,_,_,h,_,_=>by simp at h
 | _::_,[],_,_,_,_,h,_=>by simp at h
 | p::P,w::vs,0,m,nd,h1,h2,hk=>by
  simp at h1 h2; subst h1; subst h2
  show bindC kindOf ((p,w)::P.zip vs) m p=_
  unfold bindC
  rw [wX fun v hv=>(List.nodup_cons.mp nd).1 (List.of_mem_zip hv).1,if_neg hk]
  simp
 | p::P,w::vs,i + 1,m,nd,h1,h2,hk=>by
  show bindC kindOf ((p,w)::P.zip vs) m x=_
  unfold bindC
  exact wZ (i:=i) (List.nodup_cons.mp nd).2 (by simpa using h1) (by simpa using h2) hk
noncomputable def start (N:List Str) (vs:List V):St:=vs.map some++List.replicate (N.length - vs.length) none
noncomputable def DW (CX:I9) (P:Program) (w:World) (K:PySem.W.Frag) (mg:Str→Option Value) (base:Heap) (N:List Str) (qual:Str) (scope:Scope) (f:Addr) (cd:Value) (A:Around) (outer:List Env) (s:Shared) (H:Hp) (E:XK):Cx where
 prog:=P
 w:=w
 K:=K
 mg:=mg
 base:=base
 A:=A.deeper (envOfC qual scope s.heap.objs.size f cd)
 N:=N
 s₀:=s
 H₀:=H
 env:=envOfC qual scope s.heap.objs.size f cd
 outer:=outer
 stack:=envOfC qual scope s.heap.objs.size f cd::outer
 ex:=[]
 calm:=true
 fn:=fun _=>true
 pn:=[]
 xe:=fun e s'=>wpAny (model P w) (A.deeper (envOfC qual scope s.heap.objs.size f cd)) (leaving (envOfC qual scope s.heap.objs.size f cd) e) (fun _ s''=>CX outer H s E e s'') (fun e' s''=>CX outer H s E e' s'') s'
theorem Ak {sc:Scope} {n:Nat} {x:Str} (h:sc.names.lookup x=some .cell):∃c,(cellsFrom n sc.names []).lookup x=some c:=by
 have q:=PySem.W.cellsFrom_some sc.names n [] (.inl h)
 exact Option.isSome_iff_exists.mp q
theorem Ja {CX:I9} {P:Program} {w:World} {K:PySem.W.Frag} {mg:Str→Option Value} {base:Heap} {N ps:List Str} {qual:Str} {scope:Scope} {f:Addr} {cd:Value} {A:Around} {outer:List Env} {s s1:Shared} {H:Hp} {E:XK} {us:List Value} {vs:List V}
  (S:bV N ps scope) (hd:A.handled=none) (e0:DR P w K mg base A outer s H) (hl:vs.length=ps.length) (r:Vals vs us)
  (x:InCallC s s.heap.objs.size (bindL (envOfC qual scope s.heap.objs.size f cd).kindOf (ps.zip us) fun _=>none) (cellsFrom (s.heap.objs.size + 1) scope.names []) (bindC (envOfC qual scope s.heap.objs.size f cd).kindOf (ps.zip us) fun _=>none) s1):
  Inv (DW CX P w K mg base N qual scope f cd A outer s H E) [] (start N vs) H s1:=by
 have hpl:ps.length≤N.length:=by have:=congrArg List.length S.pre; rw [List.length_take] at this; omega
 obtain ⟨h1,tk,rfl,hk⟩:=x.done
 have Wm:∀b:Addr,b∉(DW CX P w K mg base N qual scope f cd A outer s H E).ex:=fun b z=>absurd (show b∈([]:List Addr) from z) (by simp)
 refine ⟨⟨e0.mod,S.kind,rfl,rfl,Nat.le_refl _,fun y z c h1 h2=>?_,fun y hy=>?_,fun y c _ h=>?_,fun _=>hd,Around.frames_deeper e0.frames,.inr ⟨rfl,rfl⟩,fun b z=>absurd z (Wm b),e0.bs,e0.Ox,fun b _ _=>Wm b,fun b z=>absurd z (Wm b),e0.sX,e0.SM⟩,
  rfl,e0.bare,Un.kept hk,⟨_,x.toInCall.ns,fun i y v h1 h2 h3=>?_⟩,fun y c h=>⟨_,x.cell y c h⟩,e0.hok.fresh (Nat.le_refl _),fun y c h=>?_,fun p hp=>absurd (show p∈([]:List (Addr×Obj)) from hp) (by simp),e0.hok.kept hk,?_⟩
 ·exact name_of_addr x.apart (PySem.mem_of_lookup h1) (PySem.mem_of_lookup h2)
 ·have hy:scope.names.lookup y=some .cell∨scope.names.lookup y=some .free:=hy
  rcases hy with hy | hy
  ·exact Ak hy
  ·exact absurd rfl (S.TQ _ (PySem.mem_of_lookup hy))
 ·exact Nat.le_of_lt (x.above y c (PySem.mem_of_lookup h))
 ·have hi:i < vs.length:=by
   unfold start at h2
   by_cases hi:i < vs.length
   ·exact hi
   ·rw [List.getElem?_append_right (by simpa using hi)] at h2
    rw [List.getElem?_replicate] at h2
    split at h2 <;> cases h2
  have ha:vs[i]?=some v:=by
   unfold start at h2
   rw [List.getElem?_append_left (by simpa using hi),List.getElem?_map] at h2
   cases e:vs[i]? with
   | none=>rw [e] at h2; cases h2
   | some a=>rw [e] at h2; cases h2; rfl
  obtain ⟨u,hu,rv⟩:=r.get ha
  have hp:ps[i]?=some y:=by
   rw [←S.pre,List.getElem?_take_of_lt (by omega)]; exact h1
  have ndP:ps.Nodup:=by rw [←S.pre]; exact S.nd.sublist (List.take_sublist _ _)
  refine ⟨u,rv,?_⟩
  rcases S.par y (List.mem_of_getElem? hp) with k | k
  ·exact .inl ⟨k,wY ndP hp hu k⟩
  ·obtain ⟨c,e⟩:=Ak (n:=s.heap.objs.size + 1) k
   refine .inr ⟨.inl k,c,e,?_⟩
   have q:=x.cell y c e
   rw [wZ ndP hp hu (by show scope.names.lookup y≠_; rw [k]; decide)] at q
   exact q
 ·exact e0.hok.fresh (Nat.le_of_lt (x.above y c (PySem.mem_of_lookup h)))
 ·unfold start
  show _=N.length
  rw [List.length_append,List.length_map,List.length_replicate]
  omega
theorem Wn {CX:I9} {P:Program} {w:World} {K:PySem.W.Frag} {mg:Str→Option Value} {base:Heap} {k:Nat} {f:Addr} {name qual:Str} {params:Arguments} {body:List Stmt} {scope:Scope} {dV kV doc pm cdv ct oc:Value} {an od:Option Addr}
  {osl:Array (Option Value)} {N ps:List Str} {sp:Sp} (lk:K.lookup f=some ⟨oc,od,.func (PySem.W.fnOf name qual params body scope dV kV doc pm an cdv ct),osl⟩) (hcd:PySem.W.codeIn K cdv qual=true) (S:bV N ps scope)
  (len:∀vs H Q E,sp vs H Q E→vs.length=ps.length)
  (hbody:∀(A:Around) (outer:List Env) (s:Shared) (H:Hp) (vs:List V) (Q:VK) (E:XK),gm k (A.deeper (envOfC qual scope s.heap.objs.size f cdv))→sp vs H Q E→
   ∃t,sY (DW CX P w K mg base N qual scope f cdv A outer s H E) body t∧t { nx:=fun _ H'=>Q .non H',rt:=Q } (start N vs) H):
  dG P w K mg base CX (k + 1) f (PySem.W.fnOf name qual params body scope dV kV doc pm an cdv ct) ps sp:=by
 refine ⟨len,fun A outer s H args us vs Q E hr e0 hb r hsp=>?_⟩
 have hl:=len _ _ _ _ hsp
 have KX:K.In s.heap:=e0.mod.YF.keeps fun b o e=>(e0.bs b o e).1
 have lim:s.heap.NoLimit:=e0.mod.nolimit.keeps fun b o e=>(e0.bs b o e).1
 have hkind:∀y∈ps.zip us,scope.names.lookup y.1=some .local∨(scope.names.lookup y.1=some .cell∧((cellsFrom (s.heap.objs.size + 1) scope.names []).lookup y.1).isSome=true):=fun ⟨n,v⟩ hy=>by
  rcases S.par n (List.of_mem_zip hy).1 with q | q
  ·exact .inl q
  ·exact .inr ⟨q,PySem.W.cellsFrom_some _ _ _ (.inl q)⟩
 refine codeAny_call_function hr.depth (KX _ _ lk) rfl S.co S.gen rfl (PySem.W.codeRec_of KX hcd) (hb _ _ _ _ ?_)
 refine wpAny_newFunctionEnv_cells S.kind hkind fun env he s1 x=>?_
 subst he
 refine ⟨lim.keeps x.toInCall.keep,codeAny_func ?_⟩
 obtain ⟨t,ht,hq⟩:=hbody A outer s H vs Q E (hr.deeper _) hsp
 have I:Inv (DW CX P w K mg base N qual scope f cdv A outer s H E) [] (start N vs) H s1:=Ja S hr.hd e0 hl r x
 refine wpAny_mono (ht [] s1 (start N vs) H _ I hq) (fun fl s' hs=>?_) fun e s' hs=>hs
 have fin:∀{σ':St} {H':Hp} {v:V} {u:Value},Inv (DW CX P w K mg base N qual scope f cdv A outer s H E) [] σ' H' s'→RelV v u→Q v H'→CE outer P w H s Q u s':=
  fun {σ' H' v u} J rv q=>⟨v,H',J.os,J.bare,J.base,J.hok,rv,q⟩
 cases fl with
 | ret u=>
  obtain ⟨v,σ',H',J,rv,q⟩:=hs
  exact fin J rv q
 | next=>
  obtain ⟨σ',H',J,q⟩:=hs
  exact fin (v:=V.non) (u:=Value.none) J rfl q
 | brk=>
  obtain ⟨_,_,_,q⟩:=hs
  exact False.elim q
 | cont=>
  obtain ⟨_,_,_,q⟩:=hs
  exact False.elim q
end L2
namespace L2
open PySem PySem.Spec PyProof.Rows
section
variable {X:Cx} {x:Str} {p pos:Pos} {e:Expr} {es:List Expr} {t:TA} {id T:String} {r:List V→Hp→VK→Prop}
noncomputable def Zc (r:List V→Hp→VK→Prop) (t:TA):TE:=fun σ H Q=>t σ H fun vs H1=>r vs H1 Q
theorem pW (hc:dZ X (.builtin id) r) (hg:Gl X x) (hm:X.mg x=none) (hv:bootBuiltins x=some (.builtin id)) (ha:PA X (e::es) t) (hn:x≠"__name__":=by decide) (hdb:(x==("__debug__":Str))=false:=by decide)
  (he:starEach (e::es) X.env=(false,eval e X.env)::starEach es X.env:=by rfl) (hpl:(backTo pos (starEach es X.env)).any (·.1)=false:=by rfl):PE X (.Call (.Name x p) (e::es) [] pos) (Zc r t):=by
 intro pins s σ H Q I h
 refine wpAny_Call_Name_kw (kE I hg hm hv ?_ hn hdb)
 exact PyProof.Rows.callWith_builtin1 (cI (ha pos pins s σ H _ I h) fun us s1 ⟨vs,H1,I1,r1,q1⟩=>hc pins s1 σ H1 vs us Q I1 r1 q1) he hpl
theorem Jb (hc:dZ X (.type T) r) (hg:Gl X x) (hm:X.mg x=none) (hv:bootBuiltins x=some (.type T)) (ha:PA X (e::es) t) (hn:x≠"__name__":=by decide) (hdb:(x==("__debug__":Str))=false:=by decide)
  (he:starEach (e::es) X.env=(false,eval e X.env)::starEach es X.env:=by rfl) (hpl:(backTo pos (starEach es X.env)).any (·.1)=false:=by rfl):PE X (.Call (.Name x p) (e::es) [] pos) (Zc r t):=by
 intro pins s σ H Q I h
 refine wpAny_Call_Name_kw (kE I hg hm hv ?_ hn hdb)
 exact PyProof.Rows.callWith_type1 (cI (ha pos pins s σ H _ I h) fun us s1 ⟨vs,H1,I1,r1,q1⟩=>hc pins s1 σ H1 vs us Q I1 r1 q1) he hpl
end
end L2
namespace HT
open PySem PyProof.Rows
section
open PySem.SeqAt
open PySem.AutoSeq1 (wpAny_loadPart')
open PySem.MeetsSeq PySem.MeetsSeq2 PySem.MeetsSeq3
end
section
variable {prog:Program} {w:World} {A:Around} {E:Value→Shared→Prop} {s:Shared}
theorem Pj {t b:Addr} {vs ws:List Value} {Q:Value→Shared→Prop} (ht:IsTup s.heap t vs.toArray) (hb:IsTup s.heap b ws.toArray) (hv:vs≠[])
  (h1:ws=[]→Q (.ref t) s) (h2:ws≠[]→Q (.ref s.heap.objs.size) { s with heap:=s.heap.push { cls:=.type "tuple",data:=.seq (vs++ws).toArray } })
  (hsz:vs.length + ws.length≤sizeLine):wpAny (model prog w) A (binaryOp .Add (.ref t) (.ref b)) Q E s:=by
 obtain ⟨⟨cls,dd,data,sl⟩,ho,hc,n,hd⟩:=id ht
 obtain ⟨⟨cls2,dd2,data2,sl2⟩,ho2,hc2,n2,hd2⟩:=id hb
 simp only at hc hd hc2 hd2
 subst hc hd hc2 hd2
 have e:vs.toArray++ws.toArray=(vs++ws).toArray:=by simp
 by_cases hw:ws=[]
 ·exact concat_meets ⟨_,ho,rfl⟩ ⟨_,ho2,rfl⟩ noFill_tuple_add seq_tuple_add PySem.F.slot_tuple_add PySem.F.entry_tuple_add (PySem.F.args_tuple_add_2 _ _)
   (tuple_addW1 t b vs.toArray ws.toArray n n2 dd dd2 sl sl2 (by simpa using hv) (by simp [hw])) ⟨ho,ho2,h1 hw⟩
 ·refine concat_meets ⟨_,ho,rfl⟩ ⟨_,ho2,rfl⟩ noFill_tuple_add seq_tuple_add PySem.F.slot_tuple_add PySem.F.entry_tuple_add (PySem.F.args_tuple_add_2 _ _)
   (tuple_addW2 t b vs.toArray ws.toArray n n2 dd dd2 sl sl2 (by simpa using hv) (by simpa using hw) (by rw [List.size_toArray,List.size_toArray]; exact hsz)) ⟨ho,ho2,?_⟩
  rw [e]
  exact h2 hw
noncomputable def dW (n d:Nat):Option Int→Nat
 | none=>d
 | some v=>if v < 0 then (v + (n:Int)).toNat else min v.toNat n
theorem Gw (n d k:Nat):dW n d (some (k:Int))=min k n:=by
 show (if (k:Int) < 0 then ((k:Int) + (n:Int)).toNat else min (k:Int).toNat n)=min k n
 rw [if_neg (by omega),Int.toNat_natCast]
theorem TV (n d:Nat) (hd:d≤n) (o:Option Int):dW n d o≤n:=by
 cases o with
 | none=>exact hd
 | some v=>
  show (if v < 0 then (v + (n:Int)).toNat else min v.toNat n)≤n
  by_cases hv:v < 0
  ·rw [if_pos hv]; omega
  ·rw [if_neg hv]; exact Nat.min_le_right _ _
theorem Gx (v:Int) (n d:Nat):(if v < 0 then max (v + (n:Int)) 0 else min v (n:Int))=((dW n d (some v):Nat):Int):=by
 show (if v < 0 then max (v + (n:Int)) 0 else min v (n:Int))=(((if v < 0 then (v + (n:Int)).toNat else min v.toNat n):Nat):Int)
 by_cases hv:v < 0
 ·simp only [if_pos hv]; omega
 ·simp only [if_neg hv]; omega
theorem DX (lo hi:Option Int) (n:Nat):Builtin.Slice.sliceAdjust lo hi 1 (n:Int)=(((dW n 0 lo:Nat):Int),((dW n n hi:Nat):Int)):=by
 have h1:¬((1:Int) < 0):=by omega
 unfold Builtin.Slice.sliceAdjust
 simp only [h1,if_false]
 refine Prod.ext ?_ ?_
 ·cases lo with
  | none=>rfl
  | some v=>exact Gx v n 0
 ·cases hi with
  | none=>rfl
  | some v=>exact Gx v n n
theorem DY (i j:Nat):Builtin.Slice.slicePlaces (i:Int) (j:Int) 1=j - i:=by
 unfold Builtin.Slice.slicePlaces
 have h1:(1:Int) > 0:=by omega
 simp only [h1,if_true,Int.ediv_one]
 split <;> omega
theorem uh {v:Value} {o:Option Int} {Q:Option Int→Shared→Prop} (p:IsPart v o) (h:Q o s):wpAny (model prog w) A (Builtin.Slice.slicePartIndex v) Q E s:=by
 cases p with
 | none=>exact slicePart_none h
 | int i t=>exact slicePart_int h
theorem jP {sl:Addr} {vl vu:Value} {lo hi:Option Int} {n:Nat} {Q:Int×Int×Nat→Shared→Prop} (hs:s.heap.IsSliceOf sl vl vu .none) (pl:IsPart vl lo) (pu:IsPart vu hi)
  (h:Q (((dW n 0 lo:Nat):Int),1,dW n n hi - dW n 0 lo) s):wpAny (model prog w) A (Builtin.Slice.sliceApplied (.ref sl) (pure (n:Int))) Q E s:=by
 obtain ⟨os,hos,hcs,hds⟩:=id hs
 unfold Builtin.Slice.sliceApplied Builtin.Slice.sliceFields
 refine wpAny_bind (wpAny_bind (wpAny_field hos hds (x:=vl) rfl (wpAny_bind (wpAny_field hos hds (x:=vu) rfl (wpAny_bind (wpAny_field hos hds (x:=.none) rfl (wpAny_pure ?_)))))))
 refine wpAny_bind (slicePart_none ?_)
 show wpAny _ _ (if ((1:Int)==0)=true then _ else _) _ _ s
 rw [if_neg (by decide)]
 refine wpAny_bind (uh pl (wpAny_bind (uh pu (wpAny_bind (wpAny_pure ?_)))))
 show wpAny _ _ (match Builtin.Slice.sliceAdjust lo hi 1 (n:Int) with | (lo,hi)=>pure (lo,(1:Int),Builtin.Slice.slicePlaces lo hi 1)) _ _ s
 rw [DX lo hi n]
 show wpAny _ _ (pure (((dW n 0 lo:Nat):Int),(1:Int),Builtin.Slice.slicePlaces ((dW n 0 lo:Nat):Int) ((dW n n hi:Nat):Int) 1)) _ _ s
 rw [DY]
 exact wpAny_pure h
theorem KQ (xs:Array Value) (i k:Nat):((List.range k).filterMap fun (m:Nat)=>xs[((i:Int) + (m:Int) * 1).toNat]?).toArray=((xs.toList.drop i).take k).toArray:=by
 have e:(fun (m:Nat)=>xs[((i:Int) + (m:Int) * 1).toNat]?)=fun m=>xs[i + m]?:=by
  funext m
  have:((i:Int) + (m:Int) * 1).toNat=i + m:=by omega
  rw [this]
 rw [e]
 have:=pick_run xs i k
 rw [List.filterMap_map] at this
 have e2:((fun x=>xs[x]?) ∘ fun x=>i + x)=fun m=>xs[i + m]?:=rfl
 rw [e2] at this
 rw [this]
theorem pX {t sl:Addr} {items:Array Value} {vl vu:Value} {lo hi:Option Int} {Q:Value→Shared→Prop} (ht:IsTup s.heap t items) (hs:s.heap.IsSliceOf sl vl vu .none) (pl:IsPart vl lo) (pu:IsPart vu hi)
  (hw:¬(dW items.size 0 lo=0∧dW items.size items.size hi=items.size))
  (h:Q (.ref s.heap.objs.size) { s with heap:=s.heap.push { cls:=.type "tuple",data:=.seq ((items.toList.drop (dW items.size 0 lo)).take (dW items.size items.size hi - dW items.size 0 lo)).toArray } })
  (hsz:items.size≤sizeLine):wpAny (model prog w) A (getItem (.ref t) (.ref sl)) Q E s:=by
 have Gy:sizeOk (.seq ((items.toList.drop (dW items.size 0 lo)).take (dW items.size items.size hi - dW items.size 0 lo)).toArray):=by
  show ((items.toList.drop (dW items.size 0 lo)).take (dW items.size items.size hi - dW items.size 0 lo)).toArray.size≤sizeLine
  rw [List.size_toArray,List.length_take,List.length_drop,Array.length_toList]
  omega
 have hj:dW items.size items.size hi≤items.size:=TV _ _ (Nat.le_refl _) hi
 obtain ⟨os,hos,hcs,hds⟩:=id hs
 have hTs:s.TypeIs (.ref sl) "slice":=⟨os,hos,hcs⟩
 unfold getItem
 try with_reducible refine wpAny_holding ?_
 first | refine wpAny_bind (wpAny_pure ?_) | skip
 refine wpAny_bind (wpAny_sequenceKey ht.typeIs (by decide) ?_)
 refine wpAny_bind (wpAny_callSpecial?_slot (name:=Str.ofString "__getitem__") ht.typeIs PyProof.Rows.slot_tuple_getitem
  (wpAny_call_entry PyProof.Rows.slot_tuple_getitem ht.typeIs entry_tuple_getitem ?_ (args_tuple_getitem _ _)))
 show wpAny _ _ (Builtin.Tuple.tupleItemsOf (.ref t) >>= _) _ _ s
 refine wpAny_bind (tupleItemsOf_ ht ?_)
 refine wpAny_bind (wpAny_typeOf hTs ?_)
 rw [if_pos (by decide)]
 refine wpAny_bind (jP hs pl pu ?_)
 have hno:¬((((dW items.size 0 lo:Nat):Int)==0&&(1:Int)==1&&(dW items.size items.size hi - dW items.size 0 lo)==items.size)=true):=by
  intro q
  rw [Bool.and_eq_true,Bool.and_eq_true] at q
  have q1:((dW items.size 0 lo:Nat):Int)=0:=eq_of_beq q.1.1
  have q2:dW items.size items.size hi - dW items.size 0 lo=items.size:=eq_of_beq q.2
  exact hw ⟨by omega,by omega⟩
 show wpAny _ _ (if (((dW items.size 0 lo:Nat):Int)==0&&(1:Int)==1&&(dW items.size items.size hi - dW items.size 0 lo)==items.size)=true then _ else _) _ _ s
 rw [if_neg hno,KQ]
 first
  | exact wpAny_bind (m:=Builtin.Tuple.tupleExact _) (wpAny_newObj_type (wpAny_pure ⟨_,rfl,wpAny_pure h⟩) Gy)
  | exact wpAny_bind (m:=Builtin.Tuple.tupleExact _) (wpAny_newObj_type (wpAny_bind (wpAny_pure (wpAny_pure ⟨_,rfl,wpAny_pure h⟩))) Gy)
  | exact wpAny_bind (wpAny_bind (m:=Builtin.Tuple.tupleExact _) (wpAny_newObj_type (wpAny_pure (wpAny_pure ⟨_,rfl,wpAny_pure h⟩)) Gy))
  | exact wpAny_bind (wpAny_bind (m:=Builtin.Tuple.tupleExact _) (wpAny_newObj_type (wpAny_pure ⟨_,rfl,wpAny_pure h⟩) Gy))
end
end HT
namespace L2
open PySem PySem.Spec PyProof.Rows
noncomputable abbrev TO:=St→Hp→(Option Int→Hp→Prop)→Prop
noncomputable def PO (X:Cx) (e:Option Expr) (t:TO):Prop:=
 ∀(pins:List (Addr×Obj)) (s:Shared) (σ:St) (H:Hp) (Q:Option Int→Hp→Prop),Inv X pins σ H s→t σ H Q→
  wpAny (model X.prog X.w) X.A (evalPart e X.env) (fun u s'=>∃o H',Inv X pins σ H' s'∧IsPart u o∧Q o H') X.xe s
noncomputable def Pk:TO:=fun _ H Q=>Q none H
noncomputable def Wo (t:TE):TO:=fun σ H Q=>t σ H fun x H1=>∃i,x=.int i∧Q (some i) H1
section
variable {X:Cx} {e:Expr} {te:TE} {lo hi:Option Expr} {tl th:TO} {pos p2:Pos}
theorem Pn:PO X none Pk:=by
 intro pins s σ H Q I h
 rw [evalPart_none]
 exact wpAny_pure ⟨none,H,I,.none,h⟩
theorem Pq (h:PE X e te):PO X (some e) (Wo te):=by
 intro pins s σ H Q I hw
 rw [evalPart_some]
 refine cI (h pins s σ H _ I hw) fun u s1 aP=>?_
 obtain ⟨x,H1,I1,r1,q1⟩:=aP
 obtain ⟨i,rfl,q⟩:=q1
 obtain ⟨t,rfl⟩:=r1
 exact ⟨some i,H1,I1,.int i t,q⟩
noncomputable def Pr (X:Cx) (r:V→Option Int→Option Int→Hp→VK→Prop):Prop:=
 ∀(pins:List (Addr×Obj)) (s:Shared) (σ:St) (H:Hp) (x:V) (v vl vu:Value) (lo hi:Option Int) (sl:Addr) (Q:VK),Inv X pins σ H s→RelV x v→s.heap.IsSliceOf sl vl vu .none→IsPart vl lo→IsPart vu hi→r x lo hi H Q→
  ∃T id,typeLookup (.type T) "__getitem__"=pure (some (.builtin id))∧s.TypeIs v T∧wpAny (model X.prog X.w) X.A (getItem v (.ref sl)) (EP X pins σ Q) X.xe s
theorem Pr.or {r r':V→Option Int→Option Int→Hp→VK→Prop} (h:Pr X r) (h':Pr X r'):Pr X (fun x lo hi H Q=>r x lo hi H Q∨r' x lo hi H Q):=by
 intro pins s σ H x v vl vu lo hi sl Q I rx hs pl pu q
 rcases q with q | q
 ·exact h pins s σ H x v vl vu lo hi sl Q I rx hs pl pu q
 ·exact h' pins s σ H x v vl vu lo hi sl Q I rx hs pl pu q
noncomputable def tSl (r:V→Option Int→Option Int→Hp→VK→Prop) (te:TE) (tl th:TO):TE:=fun σ H Q=>te σ H fun x H1=>tl σ H1 fun l H2=>th σ H2 fun u H3=>r x l u H3 Q
theorem KR {r:V→Option Int→Option Int→Hp→VK→Prop} (hr:Pr X r) (he:PE X e te) (hl:PO X lo tl) (hu:PO X hi th):PE X (.Subscript e (.Slice lo hi none p2) pos) (tSl r te tl th):=by
 intro pins s σ H Q I h
 refine Subscript_ (cI (he pins s σ H _ I h) fun v s1 aP=>?_)
 obtain ⟨x,H1,I1,r1,q1⟩:=aP
 refine wpAny_Slice (cI (hl pins s1 σ H1 _ I1 q1) fun vl s2 ⟨l,H2,I2,pl,q2⟩=>cI (hu pins s2 σ H2 _ I2 q2) fun vu s3 aP=>?_)
 obtain ⟨u,H3,I3,pu,q3⟩:=aP
 rw [evalPart_none]
 refine wpAny_pure ?_
 have I4:Inv X pins σ H3 { s3 with heap:=s3.heap.push { cls:=.type "slice",data:=.fields #[vl,vu,.none] } }:=I3.kept (t':=s3.toks) fun b ob q=>Heap.get?_push_of_some _ q
 obtain ⟨T,id,hT,ht,hg⟩:=hr pins { s3 with heap:=s3.heap.push { cls:=.type "slice",data:=.fields #[vl,vu,.none] } } σ H3 x v vl vu l u s3.heap.objs.size Q I4 r1 (Heap.IsSliceOf.new ..) pl pu q3
 show wpAny (model X.prog X.w) X.A (subscriptTail e (.Slice lo hi none p2) v (.ref s3.heap.objs.size)) (EP X pins σ Q) X.xe { s3 with heap:=s3.heap.push { cls:=.type "slice",data:=.fields #[vl,vu,.none] } }
 exact tail_any (ops:=[.ref s3.heap.objs.size,v]) ht hT hg (by with_unfolding_all rfl)
noncomputable def um (xs:List V) (lo hi:Option Int):List V:=(xs.drop (HT.dW xs.length 0 lo)).take (HT.dW xs.length xs.length hi - HT.dW xs.length 0 lo)
theorem sr (xs:List V) (lo hi:Option Int):(um xs lo hi).length≤xs.length:=by
 unfold um
 rw [List.length_take,List.length_drop]
 omega
noncomputable def Zd (K:PySem.W.Frag):V→Option Int→Option Int→Hp→VK→Prop:=fun x lo hi H Q=>∃a xs,x=.ref a∧ig K H a xs∧
 ¬(HT.dW xs.length 0 lo=0∧HT.dW xs.length xs.length hi=xs.length)∧∀p,H p=none→Q (.ref p) (upd H p (.tup (um xs lo hi)))
theorem TX:Pr X (Zd X.K):=by
 intro pins s σ H x v vl vu lo hi sl Q I rx hs pl pu h
 obtain ⟨a,xs,rfl,hx,hw,q⟩:=h
 cases rx
 obtain ⟨its,r,ht,hz⟩:=I.tuple hx
 have hlen:its.toArray.size=xs.length:=by rw [List.size_toArray]; exact r.length.symm
 refine ⟨"tuple",_,PyProof.Rows.slot_tuple_getitem.lookup,ht.typeIs,?_⟩
 refine HT.pX ht hs pl pu (by rw [hlen]; exact hw) ?_ (by rw [hlen]; exact hz)
 rw [hlen]
 refine ⟨.ref s.heap.objs.size,_,I.laid (t':=s.toks) (o:=.tup (um xs lo hi)) (fun b ob q=>Heap.get?_push_of_some _ q) (Nat.le_refl _) ?_,rfl,q _ (I.hok.fresh (Nat.le_refl _))⟩
 exact ⟨Nat.le_trans (sr xs lo hi) hz,_,(r.drop (HT.dW xs.length 0 lo)).take (HT.dW xs.length xs.length hi - HT.dW xs.length 0 lo),IsTup.new _ _⟩
noncomputable def Rz (K:PySem.W.Frag):R2:=fun x y H Q=>∃a b xs ys,x=.ref a∧y=.ref b∧ig K H a xs∧ig K H b ys∧xs≠[]∧xs.length + ys.length≤sizeLine∧
 (ys=[]→Q (.ref a) H)∧(ys≠[]→∀p,H p=none→Q (.ref p) (upd H p (.tup (xs++ys))))
theorem Vals.yI {xs:List V} {us:List Value} (r:Vals xs us):us=[] ↔ xs=[]:=by
 cases r with
 | nil=>simp
 | cons _ _=>simp
theorem Pu:gF X (binaryOp .Add) (Rz X.K):=by
 intro pins s σ H x y v u Q I rx ry h
 obtain ⟨a,b,xs,ys,rfl,rfl,ha,hb,hx,hz,q1,q2⟩:=h
 cases rx
 cases ry
 obtain ⟨its,r1,p1,_⟩:=I.tuple ha
 obtain ⟨its2,r2,p2,_⟩:=I.tuple hb
 refine HT.Pj p1 p2 (fun z=>hx (r1.yI.mp z)) (fun z=>⟨.ref a,H,I,rfl,q1 (r2.yI.mp z)⟩) (fun z=>?_) (by rw [←r1.length,←r2.length]; exact hz)
 refine ⟨.ref s.heap.objs.size,_,I.laid (t':=s.toks) (o:=.tup (xs++ys)) (fun b ob q=>Heap.get?_push_of_some _ q) (Nat.le_refl _) ?_,rfl,q2 (fun w=>z (r2.yI.mpr w)) _ (I.hok.fresh (Nat.le_refl _))⟩
 exact ⟨by rw [List.length_append]; exact hz,_,r1.append r2,IsTup.new _ _⟩
end
end L2
namespace L2
open PySem PySem.Spec PyProof.Rows
noncomputable def Ea (n:Nat) (i:Int):Option Nat:=if 0≤i then (if i < n then some i.toNat else none) else if -(n:Int)≤i then some (i + n).toNat else none
noncomputable def iD {α:Type} (xs:List α) (i:Int):Option α:=(Ea xs.length i).bind fun j=>xs[j]?
theorem Gz {n:Nat} {i:Int} {j:Nat} (h:Ea n i=some j):seqIndex? i n=some j∧j < n∧-(n:Int)≤i∧i < n:=by
 unfold Ea at h
 by_cases h0:0≤i
 ·rw [if_pos h0] at h
  by_cases h1:i < n
  ·rw [if_pos h1] at h
   have e:i.toNat=j:=Option.some.inj h
   exact ⟨by rw [seqIndex_of h0 h1,e],by omega,by omega,h1⟩
  ·rw [if_neg h1] at h; cases h
 ·rw [if_neg h0] at h
  by_cases h1:-(n:Int)≤i
  ·rw [if_pos h1] at h
   have e:(i + n).toNat=j:=Option.some.inj h
   exact ⟨by rw [seqIndex_neg (by omega) h1,e],by omega,h1,by omega⟩
  ·rw [if_neg h1] at h; cases h
theorem yJ {α:Type} {xs:List α} {i:Int} {v:α} (h:iD xs i=some v):∃j,seqIndex? i xs.length=some j∧xs[j]?=some v∧j < xs.length∧-(xs.length:Int)≤i∧i < xs.length:=by
 unfold iD at h
 cases e:Ea xs.length i with
 | none=>rw [e] at h; cases h
 | some j=>
  rw [e] at h
  obtain ⟨h1,h2,h3,h4⟩:=Gz e
  exact ⟨j,h1,h,h2,h3,h4⟩
theorem eO {α:Type} {xs:List α} {j:Nat} {v:α} (h:xs[j]?=some v):iD xs (j:Int)=some v:=by
 have hj:j < xs.length:=(List.getElem?_eq_some_iff.mp h).1
 have e:Ea xs.length (j:Int)=some j:=by
  unfold Ea
  rw [if_pos (by omega),if_pos (by omega)]; simp
 unfold iD; rw [e]; exact h
noncomputable def tL (b:Expr):Prop:=∀o i,subscripted b false o i=operate [o,i] (getItem o i)
noncomputable def Kc (X:Cx) (r:R2):Prop:=
 ∀(value slice:Expr) (pins:List (Addr×Obj)) (s:Shared) (σ:St) (H:Hp) (x y:V) (v u:Value) (Q:VK),Inv X pins σ H s→RelV x v→RelV y u→r x y H Q→
  subscripted slice false v u=operate [v,u] (getItem v u)→wpAny (model X.prog X.w) X.A (subscriptTail value slice v u) (EP X pins σ Q) X.xe s
noncomputable def VF (X:Cx) (id:String) (r:V→List V→Hp→VK→Prop):Prop:=
 ∀(pins:List (Addr×Obj)) (s:Shared) (σ:St) (H:Hp) (x:V) (xs:List V) (v:Value) (us:List Value) (Q:VK),Inv X pins σ H s→RelV x v→Vals xs us→r x xs H Q→
  wpAny (model X.prog X.w) X.A (call (.builtin id) (v::us)) (EP X pins σ Q) X.xe s
section
variable {X:Cx} {a b:Expr} {ta tb:TE} {pos:Pos}
theorem Kc.or {r r':R2} (h:Kc X r) (h':Kc X r'):Kc X (fun x y H Q=>r x y H Q∨r' x y H Q):=by
 intro value slice pins s σ H x y v u Q I rx ry q hs
 rcases q with q | q
 ·exact h value slice pins s σ H x y v u Q I rx ry q hs
 ·exact h' value slice pins s σ H x y v u Q I rx ry q hs
theorem VF.or {id:String} {r r':V→List V→Hp→VK→Prop} (h:VF X id r) (h':VF X id r'):VF X id (fun x xs H Q=>r x xs H Q∨r' x xs H Q):=by
 intro pins s σ H x xs v us Q I rx rs q
 rcases q with q | q
 ·exact h pins s σ H x xs v us Q I rx rs q
 ·exact h' pins s σ H x xs v us Q I rx rs q
theorem KY {r:R2} (hr:Kc X r) (ha:PE X a ta) (hb:PE X b tb) (hs:tL b):PE X (.Subscript a b pos) (Wc r ta tb):=by
 intro pins s σ H Q I h
 exact Subscript_ (Tp ha hb I h fun v u s2 x y H2 I2 rx ry q=>hr a b pins s2 σ H2 x y v u Q I2 rx ry q (hs _ _))
noncomputable def Wq (K:PySem.W.Frag):R2:=fun x y H Q=>∃p xs i v,x=.ref p∧y=.int i∧cZ K H p xs∧iD xs i=some v∧Q v H
noncomputable def Wr (K:PySem.W.Frag):R2:=fun x y H Q=>∃p xs i v,x=.ref p∧y=.int i∧ig K H p xs∧iD xs i=some v∧Q v H
noncomputable def Ws:R2:=fun x y H Q=>∃z i c,x=.str z∧y=.int i∧z.length≤sizeLine∧iD z.cps.toList i=some c∧Q (.str ⟨#[c]⟩) H
theorem yK:Kc X (Wq X.K):=by
 intro value slice pins s σ H x y v u Q I rx ry h hs
 obtain ⟨p,xs,i,z,rfl,rfl,hq,he,q⟩:=h
 cases rx
 obtain ⟨t,rfl⟩:=ry
 obtain ⟨its,r,pl,hz⟩:=I.list hq
 obtain ⟨j,h1,h2,h3,h4,h5⟩:=yJ he
 obtain ⟨w,ew,rw'⟩:=r.get h2
 have hl:=r.length
 have hn:=pB
 have fin:EP X pins σ Q w s:=⟨z,H,I,rw',q⟩
 by_cases h0:0≤i
 ·have hj:i.toNat=j:=by
   rw [seqIndex_of h0 h5] at h1
   exact Option.some.inj h1
  exact item_listR pl.isList h0 (by omega) (by rw [hj]; simpa using ew) fin hs
 ·have hj:(i + (its.toArray.size:Int)).toNat=j:=by
   rw [seqIndex_neg (by omega) h4] at h1
   rw [List.size_toArray,←hl]
   exact Option.some.inj h1
  exact subscriptTail_builtinR (x:=w) pl.isList.typeIs slot_list_getitem.lookup
   (wpAny_getItem_list_neg (Q:=fun r s'=>r=w∧EP X pins σ Q r s') pl.isList (by omega) (by rw [List.size_toArray] <;> omega) (by omega) (by rw [hj]; simpa using ew) ⟨rfl,fin⟩) hs
theorem TY:Kc X (Wr X.K):=by
 intro value slice pins s σ H x y v u Q I rx ry h hs
 obtain ⟨p,xs,i,z,rfl,rfl,hq,he,q⟩:=h
 cases rx
 obtain ⟨t,rfl⟩:=ry
 obtain ⟨its,r,pl,hz⟩:=I.tuple hq
 obtain ⟨j,h1,h2,h3,h4,h5⟩:=yJ he
 obtain ⟨w,ew,rw'⟩:=r.get h2
 have hl:=r.length
 have hn:=pB
 have fin:EP X pins σ Q w s:=⟨z,H,I,rw',q⟩
 exact subscriptTail_builtinR (x:=w) pl.typeIs slot_tuple_getitem.lookup
  (getItem_tuple (j:=j) (Q:=fun r s'=>r=w∧EP X pins σ Q r s') pl (by omega) (by omega) (by rw [List.size_toArray,←hl]; exact h1) (by simpa using ew) ⟨rfl,fin⟩) hs
theorem T3:Kc X Ws:=by
 intro value slice pins s σ H x y v u Q I rx ry h hs
 obtain ⟨z,i,c,rfl,rfl,hz,he,q⟩:=h
 obtain ⟨t,rfl⟩:=rx
 obtain ⟨t',rfl⟩:=ry
 obtain ⟨j,h1,h2,h3,h4,h5⟩:=yJ he
 have hl:z.cps.toList.length=z.length:=by simp [Str.length]
 rw [hl] at h1 h4 h5
 have hn:=pB
 exact tail_any (typeIs_str s z t) slot_str_getitem.lookup (getItem_str (c:=c) (by
  have e1:decide (i < -(2 ^ 63:Int))=false:=decide_eq_false (by omega)
  have e2:decide (i ≥ 2 ^ 63)=false:=decide_eq_false (by omega)
  rw [e1,e2,Bool.or_false]) (by rw [h1]; simpa using h2) ⟨.str ⟨#[c]⟩,H,I.tok _,⟨_,rfl⟩,q⟩) hs
noncomputable def rIx (K:PySem.W.Frag):R2:=fun x y H Q=>Wq K x y H Q∨Wr K x y H Q∨Ws x y H Q
theorem T4:Kc X (rIx X.K):=yK.or (TY.or T3)
theorem Eb (its:List Value) (n j:Nat) (u:Value):Obj.mapSeq (·.setIfInBounds j u) { cls:=.type "list",data:=.seq its.toArray n }={ cls:=.type "list",data:=.seq (its.set j u).toArray n }:=by
 simp [Obj.mapSeq]
theorem Inv.lst {pins:List (Addr×Obj)} {σ:St} {H:Hp} {s:Shared} {p:Addr} {xs:List V} (I:Inv X pins σ H s) (h:H p=some (.lst xs)):
  ∃(its:List Value) (n:Nat),Vals xs its∧s.heap.get? p=some { cls:=.type "list",data:=.seq its.toArray n }∧xs.length≤sizeLine:=by
 obtain ⟨z,its,n,r,e⟩:=I.hok p _ h
 exact ⟨its,n,r,e,z⟩
theorem Inv.T5 {pins:List (Addr×Obj)} {σ:St} {H:Hp} {s:Shared} {p:Addr} {xs ys:List V} {its its':List Value} {n n':Nat} {f:Obj→Obj} (I:Inv X pins σ H s) (h:H p=some (.lst xs))
  (ho:s.heap.get? p=some { cls:=.type "list",data:=.seq its.toArray n }) (hf:f { cls:=.type "list",data:=.seq its.toArray n }={ cls:=.type "list",data:=.seq its'.toArray n' }) (r:Vals ys its') (hz:ys.length≤sizeLine) (t:Nat):
  Inv X pins σ (upd H p (.lst ys)) { s with heap:=s.heap.update p f,toks:=t }:=by
 have e:(s.heap.update p f).get? p=some { cls:=.type "list",data:=.seq its'.toArray n' }:=by
  rw [Heap.get?_update_self f ho (by rw [hf] <;> rfl),hf]
 refine I.write (x:=p) (e:=p) (by rw [h]; trivial) (.inl rfl) (fun b u hb q=>(Heap.get?_update_other _ _ (Ne.symm hb)).trans q) ⟨_,e⟩ ?_
 exact ⟨hz,its',n',r,e⟩
noncomputable def RB:V→V→V→Hp→(Hp→Prop)→Prop:=fun o i v H Q=>∃p xs k j,o=.ref p∧i=.int k∧H p=some (.lst xs)∧Ea xs.length k=some j∧Q (upd H p (.lst (xs.set j v)))
theorem set_list:yC X RB:=by
 intro pins s σ H o i v ov iv u Q I ro ri rv h
 obtain ⟨p,xs,k,j,rfl,rfl,hp,hj,q⟩:=h
 cases ro
 obtain ⟨t,rfl⟩:=ri
 obtain ⟨its,n,r,ho,hz⟩:=I.lst hp
 obtain ⟨h1,h2,h3,h4⟩:=Gz hj
 have hl:=r.length
 have hn:=pB
 have I':Inv X pins σ (upd H p (.lst (xs.set j v))) { s with heap:=s.heap.update p (Obj.mapSeq (·.setIfInBounds j u)) }:=
  I.T5 hp ho (Eb its n j u) (r.set rv j) (by rw [List.length_set]; exact hz) s.toks
 by_cases h0:0≤k
 ·have hk:k.toNat=j:=by
   rw [seqIndex_of h0 h4] at h1
   exact Option.some.inj h1
  exact PySem.W.ki_setAt ho h0 (by omega) (by rw [List.size_toArray,←hl]; exact h4) (by rw [hk]; exact ⟨_,I',q⟩)
 ·have hk:(k + (its.toArray.size:Int)).toNat=j:=by
   rw [seqIndex_neg (by omega) h3] at h1
   rw [List.size_toArray,←hl]
   exact Option.some.inj h1
  exact PySem.W.ki_setBack ho (by omega) (by rw [List.size_toArray,←hl]; exact h3) (by omega) (by rw [hk]; exact ⟨_,I',q⟩)
theorem yL (lo hi:Option Int) (n:Nat):(sliceBounds lo hi none n).1=((HT.dW n 0 lo:Nat):Int)∧(sliceBounds lo hi none n).2.1=((HT.dW n n hi:Nat):Int)∧(sliceBounds lo hi none n).2.2=1:=by
 refine ⟨?_,?_,rfl⟩
 ·cases lo with
  | none=>simp [sliceBounds,HT.dW]
  | some i=>
   simp only [sliceBounds,HT.dW,Option.getD_none,show (1:Int) > 0 by decide,if_true]
   by_cases h:i < 0
   ·simp only [h,if_true] <;> omega
   ·simp only [h,if_false] <;> omega
 ·cases hi with
  | none=>simp [sliceBounds,HT.dW]
  | some i=>
   simp only [sliceBounds,HT.dW,Option.getD_none,show (1:Int) > 0 by decide,if_true]
   by_cases h:i < 0
   ·simp only [h,if_true] <;> omega
   ·simp only [h,if_false] <;> omega
theorem vX (its:List Value) (lo hi:Option Int):slicePick its.toArray lo hi none=((its.drop (HT.dW its.length 0 lo)).take (HT.dW its.length its.length hi - HT.dW its.length 0 lo)).toArray:=by
 obtain ⟨h1,h2,h3⟩:=yL lo hi its.toArray.size
 unfold slicePick
 rw [h1,h2,h3]
 simp only [sliceRange_one,pick_run,List.size_toArray] <;> rfl
noncomputable def Ze (K:PySem.W.Frag):V→Option Int→Option Int→Hp→VK→Prop:=fun x lo hi H Q=>∃a xs,x=.ref a∧cZ K H a xs∧∀p,H p=none→Q (.ref p) (upd H p (.lst (um xs lo hi)))
theorem Px:Pr X (Ze X.K):=by
 intro pins s σ H x v vl vu lo hi sl Q I rx hs pl pu h
 obtain ⟨a,xs,rfl,hx,q⟩:=h
 cases rx
 obtain ⟨its,r,ht,hz⟩:=I.list hx
 have hlen:=r.length
 refine ⟨"list",_,slot_list_getitem.lookup,ht.isList.typeIs,?_⟩
 refine wpAny_getItem_list_slice ht.isList hs pl pu .none (by simp) ?_ (by rw [List.size_toArray] <;> omega)
 rw [vX,←hlen]
 refine ⟨.ref s.heap.objs.size,_,I.laid (t':=s.toks) (o:=.lst (um xs lo hi)) (fun b ob q=>Heap.get?_push_of_some _ q) (Nat.le_refl _) ?_,rfl,q _ (I.hok.fresh (Nat.le_refl _))⟩
 exact ⟨Nat.le_trans (sr xs lo hi) hz,_,0,(r.drop (HT.dW xs.length 0 lo)).take (HT.dW xs.length xs.length hi - HT.dW xs.length 0 lo),Heap.get?_push_size _ rfl⟩
noncomputable def jQ:V→Bool
 | .non=>true
 | .bl _=>true
 | .int _=>true
 | .str _=>true
 | _=>false
noncomputable def KZ:V→V→Bool
 | .non,.non=>true
 | .bl a,.bl b=>a==b
 | .bl a,.int b=>(if a then 1 else 0)==b
 | .int a,.bl b=>a==(if b then 1 else 0)
 | .int a,.int b=>a==b
 | .str a,.str b=>a==b
 | _,_=>false
theorem Ec {A:Around} {s:Shared} {y x:V} {u v:Value} (ry:RelV y u) (rx:RelV x v) (fy:jQ y=true) (fx:jQ x=true):SeqAt.EqAt A s u v (KZ y x):=by
 cases y with
 | non=>
  cases ry
  cases x with
  | non=>cases rx; exact SeqAt.EqAt.same _
  | bl b=>cases rx; exact SeqAt.EqAt.none_bool b
  | int b=>obtain ⟨t,rfl⟩:=rx; exact SeqAt.EqAt.none_int b t
  | str b=>obtain ⟨t,rfl⟩:=rx; exact SeqAt.EqAt.none_str b t
  | _=>exact absurd (show false=true from fx) Bool.false_ne_true
 | bl a=>
  cases ry
  cases x with
  | non=>cases rx; exact SeqAt.EqAt.bool_none a
  | bl b=>cases rx; exact SeqAt.EqAt.bool_bool a b
  | int b=>obtain ⟨t,rfl⟩:=rx; exact SeqAt.EqAt.bool_int a b t
  | str b=>obtain ⟨t,rfl⟩:=rx; exact SeqAt.EqAt.bool_str a b t
  | _=>exact absurd (show false=true from fx) Bool.false_ne_true
 | int a=>
  obtain ⟨t',rfl⟩:=ry
  cases x with
  | non=>cases rx; exact SeqAt.EqAt.int_none a t'
  | bl b=>cases rx; exact SeqAt.EqAt.int_bool a t' b
  | int b=>obtain ⟨t,rfl⟩:=rx; exact SeqAt.EqAt.int_int a t' b t
  | str b=>obtain ⟨t,rfl⟩:=rx; exact SeqAt.EqAt.int_str a t' b t
  | _=>exact absurd (show false=true from fx) Bool.false_ne_true
 | str a=>
  obtain ⟨t',rfl⟩:=ry
  cases x with
  | non=>cases rx; exact SeqAt.EqAt.str_none a t'
  | bl b=>cases rx; exact SeqAt.EqAt.str_bool a t' b
  | int b=>obtain ⟨t,rfl⟩:=rx; exact SeqAt.EqAt.str_int a t' b t
  | str b=>obtain ⟨t,rfl⟩:=rx; exact SeqAt.EqAt.str_str a t' b t
  | _=>exact absurd (show false=true from fx) Bool.false_ne_true
 | _=>exact absurd (show false=true from fy) Bool.false_ne_true
noncomputable def Ed (x:V) (u:Value):Bool:=match u with
 | .none=>KZ .non x
 | .bool b=>KZ (.bl b) x
 | .int i _=>KZ (.int i) x
 | .str z _=>KZ (.str z) x
 | _=>false
theorem K1 {x y:V} {u:Value} (r:RelV y u) (f:jQ y=true):Ed x u=KZ y x:=by
 cases y with
 | non=>cases r; rfl
 | bl b=>cases r; rfl
 | int i=>obtain ⟨t,rfl⟩:=r; rfl
 | str z=>obtain ⟨t,rfl⟩:=r; rfl
 | _=>exact absurd (show false=true from f) Bool.false_ne_true
theorem pY {x:V}:∀{xs:List V} {us:List Value},Vals xs us→xs.all jQ=true→us.any (Ed x)=xs.any fun y=>KZ y x
 | _,_,.nil,_=>rfl
 | y::xs,u::us,.cons r t,f=>by
  rw [List.all_cons,Bool.and_eq_true] at f
  rw [List.any_cons,List.any_cons,K1 r f.1,pY t f.2]
theorem mU {A:Around} {s:Shared} {x:V} {v:Value} (rx:RelV x v) (fx:jQ x=true):∀{xs:List V} {us:List Value},Vals xs us→xs.all jQ=true→∀u∈us,SeqAt.EqAt A s u v (Ed x u)
 | _,_,.nil,_=>fun u hu=>by cases hu
 | y::xs,u::us,.cons r t,f=>fun u' hu=>by
  rw [List.all_cons,Bool.and_eq_true] at f
  rcases List.mem_cons.mp hu with rfl | hu
  ·rw [K1 r f.1]; exact Ec r rx f.1 fx
  ·exact mU rx fx t f.2 u' hu
noncomputable def inV (x:V) (xs:List V):Bool:=xs.any fun y=>KZ y x
noncomputable def Yd (K:PySem.W.Frag) (neg:Bool):R2:=fun x y H Q=>∃p xs,y=.ref p∧(cZ K H p xs∨ig K H p xs)∧jQ x=true∧xs.all jQ=true∧Q (.bl (if neg then !inV x xs else inV x xs)) H
theorem Jc:gF X (compareOp .In) (Yd X.K false):=by
 intro pins s σ H x y v u Q I rx ry h
 obtain ⟨p,xs,rfl,hq,fx,fs,q⟩:=h
 cases ry
 rcases hq with hq | hq
 ·obtain ⟨its,r,pl,hz⟩:=I.list hq
  refine SeqAt.in_listAt (Ed x) pl.isList (fun w hw=>mU rx fx r fs w (by simpa using hw)) ⟨.bl _,H,I,rfl,?_⟩
  rw [show its.toArray.any (Ed x)=its.any (Ed x) by simp,pY r fs]
  exact q
 ·obtain ⟨its,r,pl,hz⟩:=I.tuple hq
  refine SeqAt.in_tupleAt (Ed x) pl (fun w hw=>mU rx fx r fs w (by simpa using hw)) ⟨.bl _,H,I,rfl,?_⟩
  rw [show its.toArray.any (Ed x)=its.any (Ed x) by simp,pY r fs]
  exact q
theorem yM:gF X (compareOp .NotIn) (Yd X.K true):=by
 intro pins s σ H x y v u Q I rx ry h
 obtain ⟨p,xs,rfl,hq,fx,fs,q⟩:=h
 cases ry
 rcases hq with hq | hq
 ·obtain ⟨its,r,pl,hz⟩:=I.list hq
  refine SeqAt.notIn_listAt (Ed x) pl.isList (fun w hw=>mU rx fx r fs w (by simpa using hw)) ⟨.bl _,H,I,rfl,?_⟩
  rw [show its.toArray.any (Ed x)=its.any (Ed x) by simp,pY r fs]
  exact q
 ·obtain ⟨its,r,pl,hz⟩:=I.tuple hq
  refine SeqAt.notIn_tupleAt (Ed x) pl (fun w hw=>mU rx fx r fs w (by simpa using hw)) ⟨.bl _,H,I,rfl,?_⟩
  rw [show its.toArray.any (Ed x)=its.any (Ed x) by simp,pY r fs]
  exact q
theorem pZ:dZ X (.builtin "len") (fun xs H Q=>∃p ys,xs=[.ref p]∧(cZ X.K H p ys∨ig X.K H p ys)∧Q (.int ys.length) H):=by
 intro pins s σ H xs us Q I r h
 obtain ⟨p,ys,rfl,hq,q⟩:=h
 obtain ⟨u,rfl,rx⟩:=vals1 r
 cases rx
 have hn:=pB
 rcases hq with hq | hq
 ·obtain ⟨its,r',pl,hz⟩:=I.list hq
  have hlen:=r'.length
  exact Calls.call_len_list pl.isList (by simp only [List.size_toArray] <;> omega) ⟨.int ys.length,H,I.tok _,⟨s.toks + 1,by rw [List.size_toArray,hlen]⟩,q⟩
 ·obtain ⟨its,r',pl,hz⟩:=I.tuple hq
  have hlen:=r'.length
  exact len_tuple pl (by simp only [List.size_toArray] <;> omega) ⟨.int ys.length,H,I.tok _,⟨s.toks + 1,by rw [List.size_toArray,hlen]⟩,q⟩
theorem yN:dZ X (.builtin "len") (fun xs H Q=>∃z,xs=[.str z]∧z.length≤sizeLine∧Q (.int z.length) H):=by
 intro pins s σ H xs us Q I r h
 obtain ⟨z,rfl,hz,q⟩:=h
 obtain ⟨u,rfl,t,rfl⟩:=vals1 r
 have hn:=pB
 exact len_str (by omega) ⟨.int z.length,H,I.tok _,⟨_,rfl⟩,q⟩
theorem dZ.or {f:Value} {r r':List V→Hp→VK→Prop} (h:dZ X f r) (h':dZ X f r'):dZ X f (fun xs H Q=>r xs H Q∨r' xs H Q):=by
 intro pins s σ H xs us Q I rs q
 rcases q with q | q
 ·exact h pins s σ H xs us Q I rs q
 ·exact h' pins s σ H xs us Q I rs q
theorem oO:dZ X (.type "tuple") (fun xs H Q=>∃p ys,xs=[.ref p]∧((cZ X.K H p ys∧∀l,H l=none→Q (.ref l) (upd H l (.tup ys)))∨(ig X.K H p ys∧Q (.ref p) H))):=by
 intro pins s σ H xs us Q I r h
 obtain ⟨p,ys,rfl,h⟩:=h
 obtain ⟨u,rfl,rx⟩:=vals1 r
 cases rx
 rcases h with ⟨hq,q⟩ | ⟨hq,q⟩
 ·obtain ⟨its,r',pl,hz⟩:=I.list hq
  have hlen:=r'.length
  refine call_tuple_list pl.isList (fun h' kp=>?_) (by simp only [List.size_toArray] <;> omega)
  have I1:Inv X pins σ H { s with heap:=h' }:=I.kept (t':=s.toks) kp
  have I2:Inv X pins σ (upd H h'.objs.size (.tup ys)) { s with heap:=h'.push { cls:=.type "tuple",data:=.seq its.toArray } }:=
   I1.laid (t':=s.toks) (fun b o e=>Heap.get?_push_of_some _ e) (Nat.le_refl _) (show bW X.prog X.w _ _ _ (.tup ys) from ⟨hz,its,r',IsTup.new _ _⟩)
  exact ⟨.ref h'.objs.size,_,I2,rfl,q _ (I1.hok.fresh (Nat.le_refl _))⟩
 ·obtain ⟨its,r',pl,hz⟩:=I.tuple hq
  exact call_tuple_same pl ⟨.ref p,H,I,rfl,q⟩
noncomputable def tyV (K:PySem.W.Frag) (T:String) (x:V) (H:Hp):Prop:=match x with
 | .str _=>T="str"
 | .int _=>T="int"
 | .ref p=>(T="list"∧∃xs,cZ K H p xs)∨(T="tuple"∧∃o,K.lookup p=some o∧o.cls=.type "tuple"∧o.dict=none)∨
   (T="dict"∧((∃kvs,H p=some (.dK kvs))∨∃kvs,H p=some (.dT kvs)))∨(T="set"∧∃S n,H p=some (.set S n))
 | _=>False
theorem T6 {pins:List (Addr×Obj)} {σ:St} {H:Hp} {s:Shared} {T:String} {x:V} {v:Value} (I:Inv X pins σ H s) (r:RelV x v) (ty:tyV X.K T x H):
  s.TypeIs v T∧∀a,v=.ref a→∃ob,s.heap.get? a=some ob∧ob.dict=none:=by
 cases x with
 | str z=>
  obtain ⟨t,rfl⟩:=r
  cases (show T="str" from ty)
  exact ⟨typeIs_str s z t,fun _ e=>nomatch e⟩
 | int i=>
  obtain ⟨t,rfl⟩:=r
  cases (show T="int" from ty)
  exact ⟨typeIs_int s i t,fun _ e=>nomatch e⟩
 | ref p=>
  cases r
  rcases ty with ⟨rfl,xs,hq⟩ | ⟨rfl,o,hk,hc,hd⟩ | ⟨rfl,hk⟩ | ⟨rfl,S,n,hk⟩
  ·obtain ⟨its,_,pl,_⟩:=I.list hq
   refine ⟨pl.isList.typeIs,fun a e=>?_⟩
   cases e
   obtain ⟨o,n,e,c,hd,_⟩:=pl
   exact ⟨o,e,hd⟩
  ·refine ⟨⟨o,I.qW p o hk,hc⟩,fun a e=>?_⟩
   cases e
   exact ⟨o,I.qW _ o hk,hd⟩
  ·have z:∃o,s.heap.get? p=some o∧o.ExactDict:=by
    rcases hk with ⟨kvs,hk⟩ | ⟨kvs,hk⟩
    ·obtain ⟨_,_,_,_,o,_,_,e,ex,_⟩:=I.hok p _ hk
     exact ⟨o,e,ex⟩
    ·obtain ⟨_,_,_,_,o,_,_,e,ex,_⟩:=I.hok p _ hk
     exact ⟨o,e,ex⟩
   obtain ⟨o,e,ex⟩:=z
   refine ⟨⟨o,e,ex.1⟩,fun a e2=>?_⟩
   cases e2
   exact ⟨o,e,ex.2.1⟩
  ·obtain ⟨o,_,_,_,e,ex,_⟩:=I.hok p _ hk
   refine ⟨⟨o,e,ex.1⟩,fun a e2=>?_⟩
   cases e2
   exact ⟨o,e,ex.2.1⟩
 | _=>exact False.elim ty
noncomputable def tBM (K:PySem.W.Frag) (T:String) (r:V→List V→Hp→VK→Prop) (to:TE) (t:TA):TE:=fun σ H Q=>to σ H fun x H1=>tyV K T x H1∧t σ H1 fun xs H2=>r x xs H2 Q
variable {o e:Expr} {es:List Expr} {to:TE} {t:TA} {name:Str} {apos cpos:Pos} {T id:String} {r:V→List V→Hp→VK→Prop}
theorem K3 (pa:PlainAttrs T) (slot:Slot T name id) (hty:typeOf (.builtin id)=pure (.type "method_descriptor")) (hm:VF X id r) (ho:PE X o to) (ha:PA X (e::es) t)
  (hbase:attributeBase o name X.env (eval o X.env)=eval o X.env:=by rfl)
  (hfew:((backTo cpos (starEach (e::es) X.env)).all (fun x=>!x.1)&&(backToKw cpos (keywordEach [] X.env)).all (fun x=>x.1.isSome)
   &&decide ((e::es).length + ([]:List Keyword).length + (if ([]:List Keyword).isEmpty then 0 else 1) < 30))=true:=by rfl)
  (hline:(apos.endLine==cpos.line)=true:=by rfl) (hs:starEach (e::es) X.env=(false,eval e X.env)::starEach es X.env:=by rfl) (hplain:(backTo cpos (starEach es X.env)).any (·.1)=false:=by rfl):
  PE X (.Call (.Attribute o name apos) (e::es) [] cpos) (tBM X.K T r to t):=by
 intro pins s σ H Q I h
 refine wpAny_Call_method_late hbase hfew hline rfl (cI (ho pins s σ H _ I h) fun v s1 aP=>?_)
 obtain ⟨x,H1,I1,r1,ty,q1⟩:=aP
 obtain ⟨h1,h2⟩:=T6 I1 r1 ty
 refine ⟨T,id,pa,slot,hty,h1,h2,?_⟩
 have hA:=ha cpos pins s1 σ H1 _ I1 q1
 rw [hs] at hA ⊢
 refine Calls.callWith_builtin (by show (false || (backTo cpos (starEach es X.env)).any (·.1))=false; rw [hplain] <;> rfl) (Calls.evalArgs_plain ?_)
 exact cI hA fun us s2 ⟨vs,H2,I2,r2,q2⟩=>hm pins s2 σ H2 x vs v us Q I2 r1 r2 q2
end
end L2
namespace L2
open PySem PySem.Spec PyProof.Rows
noncomputable def RC (X:Cx) (id:String) (r:V→List V→Hp→VK→Prop):Prop:=
 ∀(pins:List (Addr×Obj)) (s:Shared) (σ:St) (H:Hp) (x:V) (xs:List V) (v:Value) (us:List Value) (Q:VK),Inv X pins σ H s→RelV x v→Vals xs us→r x xs H Q→
  wpAny (model X.prog X.w) X.A (call (.builtin id) (v::us)) (EP X pins σ Q) X.xe s
theorem Vals.one:∀{x:V} {us:List Value},Vals [x] us→∃u,us=[u]∧RelV x u
 | _,_,.cons r .nil=>⟨_,rfl,r⟩
theorem Vals.eraseIdx:∀{xs:List V} {us:List Value} (i:Nat),Vals xs us→Vals (xs.eraseIdx i) (us.eraseIdx i)
 | _,_,_,.nil=>.nil
 | _,_,0,.cons _ t=>t
 | _,_,i + 1,.cons r t=>.cons r (Vals.eraseIdx i t)
theorem Vals.reverse {xs:List V} {us:List Value} (h:Vals xs us):Vals xs.reverse us.reverse:=by
 induction h with
 | nil=>exact .nil
 | cons r t ih=>rw [List.reverse_cons,List.reverse_cons]; exact Vals.append ih (.cons r .nil)
section
variable {X:Cx} {pins:List (Addr×Obj)} {σ:St} {H:Hp} {s:Shared} {l b:Addr} {xs ys zs:List V}
theorem Inv.Wt {its its':List Value} {n:Nat} {f:Array Value→Array Value} {t':Nat} (I:Inv X pins σ H s) (hH:H l=some (.lst xs))
  (e:s.heap.get? l=some { cls:=.type "list",data:=.seq its.toArray n }) (hf:f its.toArray=its'.toArray) (hv:Vals ys its') (hz:ys.length≤sizeLine):
  Inv X pins σ (upd H l (.lst ys)) { s with heap:=s.heap.update l (Obj.mapSeq f),toks:=t' }:=by
 have q:=PySem.IsL.update e f
 rw [hf] at q
 refine I.write (x:=l) (e:=l) (by rw [hH]; exact trivial) (.inl rfl) (fun b' u hb hu=>(Heap.get?_update_other s.heap (Obj.mapSeq f) (Ne.symm hb)).trans hu) ⟨_,q⟩ ?_
 exact ⟨hz,its',_,hv,q⟩
theorem Inv.Zf {its:List Value} {t':Nat} (I:Inv X pins σ H s) (hv:Vals ys its) (hz:ys.length≤sizeLine):
  Inv X pins σ (upd H s.heap.objs.size (.lst ys)) { s with heap:=s.heap.push { cls:=.type "list",data:=.seq its.toArray },toks:=t' }:=
 I.laid (fun _ _ q=>Heap.get?_push_of_some _ q) (Nat.le_refl _) ⟨hz,its,0,hv,Heap.get?_push_size _ rfl⟩
theorem Inv.fresh (I:Inv X pins σ H s):H s.heap.objs.size=none:=I.hok.fresh (Nat.le_refl _)
theorem Inv.K4 (I:Inv X pins σ H s) (hH:H l=some (.lst xs)):xs.length≤sizeLine∧∃(its:List Value) (n:Nat),Vals xs its∧xs.length=its.length∧s.heap.get? l=some { cls:=.type "list",data:=.seq its.toArray n }:=by
 obtain ⟨z,its,n,r,e⟩:=I.hok l _ hH
 exact ⟨z,its,n,r,r.length,e⟩
theorem K5 {n:Nat} (h:n≤sizeLine):Builtin.List.listTooLong n=false:=by
 unfold Builtin.List.listTooLong
 exact decide_eq_false (by omega)
end
section
variable {X:Cx}
noncomputable def Py:V→List V→Hp→VK→Prop:=fun x vs H Q=>∃l xs y,x=.ref l∧vs=[y]∧H l=some (.lst xs)∧xs.length < sizeLine∧Q .non (upd H l (.lst (xs++[y])))
theorem w5:RC X "list.append" Py:=by
 intro pins s σ H x vs v us Q I rx rv h
 obtain ⟨l,xs,y,rfl,rfl,hH,hz,q⟩:=h
 cases rx
 obtain ⟨u,rfl,ru⟩:=rv.one
 obtain ⟨z,its,n,r,hl,e⟩:=I.K4 hH
 refine call_meets F.slot_list_append ⟨_,e,rfl⟩ F.entry_list_append (F.args_list_append_2 _ _) (PySem.list_append l its.toArray n u (by rw [List.size_toArray]; omega)) ⟨e,?_⟩
 refine ⟨.non,_,I.Wt (its':=its++[u]) hH e (by simp) (r.append (.cons ru .nil)) ?_,rfl,q⟩
 rw [List.length_append,List.length_singleton]
 omega
noncomputable def Pz:V→List V→Hp→VK→Prop:=fun x vs H Q=>∃l b xs zs,x=.ref l∧vs=[.ref b]∧H l=some (.lst xs)∧H b=some (.lst zs)∧xs.length + zs.length≤sizeLine∧Q .non (upd H l (.lst (xs++zs)))
theorem Jd:RC X "list.extend" Pz:=by
 intro pins s σ H x vs v us Q I rx rv h
 obtain ⟨l,b,xs,zs,rfl,rfl,hH,hB,hz,q⟩:=h
 cases rx
 obtain ⟨u,rfl,ru⟩:=rv.one
 cases ru
 obtain ⟨z,its,n,r,hl,e⟩:=I.K4 hH
 obtain ⟨z2,its2,n2,r2,hl2,e2⟩:=I.K4 hB
 have hsz:its.toArray.size + its2.toArray.size≤sizeLine:=by rw [List.size_toArray,List.size_toArray]; omega
 have Wu:¬(!its.toArray.isEmpty&&Builtin.List.listTooLong (its.toArray.size + its2.toArray.size))=true:=by
  rw [K5 hsz,Bool.and_false]
  exact Bool.false_ne_true
 refine call_meets F.slot_list_extend ⟨_,e,rfl⟩ F.entry_list_extend (F.args_list_extend_2 _ _)
  (AutoSeq1.list_extend_list_list_0 l its.toArray n b its2.toArray n2 Wu (by rw [List.size_toArray]; omega) (by omega)) ⟨e,e2,?_⟩
 refine ⟨.non,_,I.Wt (its':=its++its2) hH e (by simp) (r.append r2) ?_,rfl,q⟩
 rw [List.length_append]
 omega
noncomputable def Wv:R2:=fun x y H Q=>∃l b xs zs,x=.ref l∧y=.ref b∧H l=some (.lst xs)∧H b=some (.lst zs)∧xs.length + zs.length≤sizeLine∧∀p,H p=none→Q (.ref p) (upd H p (.lst (xs++zs)))
theorem T7:gF X (binaryOp .Add) Wv:=by
 intro pins s σ H x y v u Q I rx ry h
 obtain ⟨l,b,xs,zs,rfl,rfl,hH,hB,hz,q⟩:=h
 cases rx
 cases ry
 obtain ⟨z,its,n,r,hl,e⟩:=I.K4 hH
 obtain ⟨z2,its2,n2,r2,hl2,e2⟩:=I.K4 hB
 refine PySem.P.add_list e e2 ?_ (by rw [List.size_toArray,List.size_toArray]; omega)
 have ea:its.toArray++its2.toArray=(its++its2).toArray:=by simp
 rw [ea]
 exact ⟨.ref _,_,I.Zf (t':=s.toks) (r.append r2) (by rw [List.length_append]; omega),rfl,q _ I.fresh⟩
end
section
variable {prog:Program} {w:World} {A:Around} {E:Value→Shared→Prop} {s:Shared}
set_option maxRecDepth 100000 in
end
section
variable {X:Cx}
end
end L2
namespace L2
open PySem PySem.Spec PyProof.Rows
section
variable {κ:Type} [DecidableEq κ]
noncomputable def oG (kvs:List (κ×V)) (k:κ):Option V:=(kvs.find? fun kv=>decide (kv.1=k)).map (·.2)
noncomputable def putK (kvs:List (κ×V)) (k:κ) (v:V):List (κ×V):=
 if (kvs.any fun kv=>decide (kv.1=k))=true then kvs.map (fun kv=>if kv.1=k then (kv.1,v) else kv) else kvs++[(k,v)]
noncomputable def RG (kvs:List (κ×V)) (k:κ):List (κ×V):=kvs.filter fun kv=>decide (kv.1≠k)
theorem p6 {p:κ×V} {r:List (κ×V)} {k:κ} (e:p.1=k):oG (p::r) k=some p.2:=by simp [oG,List.find?_cons,e]
theorem p7 {p:κ×V} {r:List (κ×V)} {k:κ} (e:¬p.1=k):oG (p::r) k=oG r k:=by simp [oG,List.find?_cons,e]
theorem Al (k:κ):∀kvs:List (κ×V),(kvs.any fun kv=>decide (kv.1=k))=(oG kvs k).isSome
 | []=>rfl
 | p::r=>by
  rw [List.any_cons]
  by_cases e:p.1=k
  ·simp only [p6 e,decide_eq_true e,Bool.true_or,Option.isSome_some]
  ·rw [p7 e,decide_eq_false e,Bool.false_or]; exact Al k r
theorem jk (kvs:List (κ×V)) (k:κ) (v:V):(putK kvs k v).length≤kvs.length + 1:=by
 unfold putK
 split
 ·rw [List.length_map]; omega
 ·rw [List.length_append,List.length_cons,List.length_nil]; omega
theorem qX.jR {o:Option V} {u:Option Value} (r:qX o u):o.isSome=u.isSome:=by
 cases o with
 | none=>cases u with
  | none=>rfl
  | some _=>exact (show False from r).elim
 | some _=>cases u with
  | none=>exact (show False from r).elim
  | some _=>rfl
theorem qX.getD {o:Option V} {u:Option Value} {d:V} {d':Value} (r:qX o u) (rd:RelV d d'):RelV (o.getD d) (u.getD d'):=by
 cases o with
 | none=>cases u with
  | none=>exact rd
  | some _=>exact (show False from r).elim
 | some _=>cases u with
  | none=>exact (show False from r).elim
  | some _=>exact r
theorem KV.val {kvs:List (κ×V)} {vs:List (κ×Value)} (r:KV kvs vs) (k:κ):qX (oG kvs k) (valueAt vs k):=by
 unfold KV at r
 induction r with
 | nil=>exact True.intro
 | @cons p q ps qs h t ih=>
  obtain ⟨h1,h2⟩:=h
  by_cases e:p.1=k
  ·have e':q.1=k:=h1.symm.trans e
   have b:valueAt (q::qs) k=some q.2:=by simp [valueAt,List.find?_cons,e']
   rw [p6 e,b]; exact h2
  ·have e':¬q.1=k:=fun z=>e (h1.trans z)
   have b:valueAt (q::qs) k=valueAt qs k:=by simp [valueAt,List.find?_cons,e']
   rw [p7 e,b]; exact ih
theorem KV.any {kvs:List (κ×V)} {vs:List (κ×Value)} (r:KV kvs vs) (k:κ):(kvs.any fun kv=>decide (kv.1=k))=vs.any fun kv=>decide (kv.1=k):=by
 unfold KV at r
 induction r with
 | nil=>rfl
 | cons h t ih=>rw [List.any_cons,List.any_cons,ih,h.1]
theorem KV.repl {kvs:List (κ×V)} {vs:List (κ×Value)} (r:KV kvs vs) (k:κ) {y:V} {u:Value} (ry:RelV y u):
  KV (kvs.map fun kv=>if kv.1=k then (kv.1,y) else kv) (vs.map fun kv=>if kv.1=k then (kv.1,u) else kv):=by
 unfold KV at r ⊢
 induction r with
 | nil=>exact .nil
 | @cons p q ps qs h t ih=>
  rw [List.map_cons,List.map_cons]
  refine .cons ?_ ih
  obtain ⟨h1,h2⟩:=h
  by_cases e:p.1=k
  ·rw [if_pos e,if_pos (h1.symm.trans e)]; exact ⟨h1,ry⟩
  ·rw [if_neg e,if_neg (fun z=>e (h1.trans z))]; exact ⟨h1,h2⟩
theorem KV.put {kvs:List (κ×V)} {vs:List (κ×Value)} (r:KV kvs vs) (k:κ) {y:V} {u:Value} (ry:RelV y u):KV (putK kvs k y) (stored vs k u):=by
 unfold putK stored
 rw [r.any k]
 by_cases e:(vs.any fun kv=>decide (kv.1=k))=true
 ·rw [if_pos e,if_pos e]; exact r.repl k ry
 ·rw [if_neg e,if_neg e]; exact Paired.snoc r ⟨rfl,ry⟩
theorem KV.drop {kvs:List (κ×V)} {vs:List (κ×Value)} (r:KV kvs vs) (k:κ):KV (RG kvs k) (without vs k):=by
 unfold KV at r ⊢
 unfold RG without
 induction r with
 | nil=>exact .nil
 | @cons p q ps qs h t ih=>
  obtain ⟨h1,h2⟩:=h
  rw [List.filter_cons,List.filter_cons]
  by_cases e:p.1=k
  ·have a:¬decide (p.1≠k)=true:=by simp [e]
   have b:¬decide (q.1≠k)=true:=by simp [h1.symm.trans e]
   rw [if_neg a,if_neg b]; exact ih
  ·have e':¬q.1=k:=fun z=>e (h1.trans z)
   have a:decide (p.1≠k)=true:=by simp [e]
   have b:decide (q.1≠k)=true:=by simp [e']
   rw [if_pos a,if_pos b]; exact .cons ⟨h1,h2⟩ ih
theorem KV.length {kvs:List (κ×V)} {vs:List (κ×Value)} (r:KV kvs vs):kvs.length=vs.length:=Paired.length r
end
theorem uo {P:Program} {w:World} {k:Key} {u:Value} (r:RelV (kV k) u):(cj P w).is k u=true:=by
 cases k with
 | inl i=>obtain ⟨t,e⟩:=(show ∃t,u=Value.int i t from r); subst e; exact Af P w i t
 | inr x=>obtain ⟨t,e⟩:=(show ∃t,u=Value.str x t from r); subst e; exact Ag P w x t
theorem xg {P:Program} {w:World}:∀{ks:List Key} {us:List Value},Vals (ks.map kV) us→ItemsAre (cj P w) ks us
 | [],_,r=>by rw [List.map_nil] at r; cases r; exact .nil
 | k::ks,_,r=>by
  rw [List.map_cons] at r
  cases r with
  | cons h t=>exact .cons (uo h) (xg t)
noncomputable abbrev KT (H:Hp):List (List Key×V)→List (List Key×Addr×Value)→Prop:=Paired fun p q=>p.1=q.1∧H q.2.1=some (.tup (p.1.map kV))∧RelV p.2 q.2.2
theorem KT.val {H:Hp} {kvs:List (List Key×V)} {xs:List (List Key×Addr×Value)} (r:KT H kvs xs) (k:List Key):qX (oG kvs k) ((atKey xs k).map (·.2)):=by
 induction r with
 | nil=>exact True.intro
 | @cons p q ps qs h t ih=>
  obtain ⟨h1,_,h2⟩:=h
  by_cases e:p.1=k
  ·have e':q.1=k:=h1.symm.trans e
   have b:atKey (q::qs) k=some q.2:=by simp [atKey,List.find?_cons,e']
   rw [p6 e,b]; exact h2
  ·have e':¬q.1=k:=fun z=>e (h1.trans z)
   have b:atKey (q::qs) k=atKey qs k:=by simp [atKey,List.find?_cons,e']
   rw [p7 e,b]; exact ih
theorem KT.repl {H:Hp} {kvs:List (List Key×V)} {xs:List (List Key×Addr×Value)} (r:KT H kvs xs) (k:List Key) {y:V} {u:Value} (ry:RelV y u):
  KT H (kvs.map fun kv=>if kv.1=k then (kv.1,y) else kv) (xs.map (putAt k u)):=by
 induction r with
 | nil=>exact .nil
 | @cons p q ps qs h t ih=>
  rw [List.map_cons,List.map_cons]
  refine .cons ?_ ih
  obtain ⟨h1,h2,h3⟩:=h
  unfold putAt
  by_cases e:p.1=k
  ·rw [if_pos e,if_pos (h1.symm.trans e)]; exact ⟨h1,h2,ry⟩
  ·rw [if_neg e,if_neg (fun z=>e (h1.trans z))]; exact ⟨h1,h2,h3⟩
theorem KT.put {H:Hp} {kvs:List (List Key×V)} {xs:List (List Key×Addr×Value)} (r:KT H kvs xs) (k:List Key) {b:Addr} {y:V} {u:Value} (hb:H b=some (.tup (k.map kV))) (ry:RelV y u):
  KT H (putK kvs k y) (storedH xs k b u):=by
 have e:(kvs.any fun kv=>decide (kv.1=k))=(atKey xs k).isSome:=by
  rw [Al,(r.val k).jR,Option.isSome_map]
 unfold putK storedH
 rw [e]
 by_cases q:(atKey xs k).isSome=true
 ·rw [if_pos q,if_pos q]; exact r.repl k ry
 ·rw [if_neg q,if_neg q]; exact Paired.snoc r ⟨rfl,hb,ry⟩
theorem KT.keeps {H H':Hp} {kvs:List (List Key×V)} {xs:List (List Key×Addr×Value)} (r:KT H kvs xs) (ht:∀b ys,H b=some (.tup ys)→H' b=some (.tup ys)):KT H' kvs xs:=
 Paired.SJ r fun _ _ z=>⟨z.1,ht _ _ z.2.1,z.2.2⟩
section
variable {P:Program} {w:World} {H:Hp} {h:Heap} {a:Addr}
theorem RJ {u:HO} (ok:pQ P w H h) (e:Rd H a u):bW P w H h a u:=e.ok ok
theorem xj {kvs:List (Key×V)} (ok:pQ P w H h) (e:Rd H a (.dK kvs)):kvs.length≤sizeLine∧(a==sysModules)=false∧∃vs,KV kvs vs∧h.DictOf (cj P w) a vs:=
 show bW P w H h a (.dK kvs) from RJ ok e
theorem GC {kvs:List (Key×V)} (ok:pQ P w H h) (e:H a=some (.dK kvs)):kvs.length≤sizeLine∧(a==sysModules)=false∧∃vs,KV kvs vs∧h.DictOf (cj P w) a vs:=xj ok (.inl e)
theorem uq {ks:List Key} (ok:pQ P w H h) (e:H a=some (.tup (ks.map kV))):(tupleKind (cj P w)).is h ks a:=by
 obtain ⟨_,its,r,o,h1,h2,n,h3⟩:=(show bW P w H h a (.tup (ks.map kV)) from ok a _ e)
 exact ⟨o,its.toArray,n,h1,h2,h3,by simpa using xg r⟩
theorem Am {kvs:List (List Key×V)} (ok:pQ P w H h) (e:Rd H a (.dT kvs)):kvs.length≤sizeLine∧(a==sysModules)=false∧
  ∃xs,KT H kvs xs∧h.DictOfH (tupleKind (cj P w)) a xs:=by
 obtain ⟨z,y,xs,r,o,es,ep,h1,h2,h3,h4,h5⟩:=(show bW P w H h a (.dT kvs) from RJ ok e)
 refine ⟨z,y,xs,r,o,es,ep,h1,h2,h3,h4,fun x hx=>?_,h5⟩
 have all:∀{l:List (List Key×V)} {m:List (List Key×Addr×Value)},KT H l m→∀x∈m,(tupleKind (cj P w)).is h x.1 x.2.1:=by
  intro l m q
  induction q with
  | nil=>intro x hx; exact nomatch hx
  | @cons p q ps qs hq t ih=>
   intro x hx
   rcases List.mem_cons.mp hx with e | hx
   ·subst e
    exact uq ok (by rw [←hq.1]; exact hq.2.1)
   ·exact ih x hx
 exact all r x hx
theorem Ww {kvs:List (List Key×V)} (ok:pQ P w H h) (e:H a=some (.dT kvs)):kvs.length≤sizeLine∧(a==sysModules)=false∧
  ∃xs,KT H kvs xs∧h.DictOfH (tupleKind (cj P w)) a xs:=Am ok (.inl e)
end
noncomputable def oH (H:Hp) (a:Addr) (y:V) (r:Option V):Prop:=
 (∃kvs k,Rd H a (.dK kvs)∧y=kV k∧r=oG kvs k)∨∃kvs k b,Rd H a (.dT kvs)∧y=.ref b∧H b=some (.tup (k.map kV))∧r=oG kvs k
noncomputable def vY (H:Hp) (a:Addr) (y v:V) (H':Hp):Prop:=
 (∃kvs k,H a=some (.dK kvs)∧y=kV k∧kvs.length < sizeLine∧H'=upd H a (.dK (putK kvs k v)))∨
 ∃kvs k b,H a=some (.dT kvs)∧y=.ref b∧H b=some (.tup (k.map kV))∧kvs.length < sizeLine∧H'=upd H a (.dT (putK kvs k v))
theorem oH.k {H:Hp} {a:Addr} {kvs:List (Key×V)} {k:Key} (e:H a=some (.dK kvs)):oH H a (kV k) (oG kvs k):=.inl ⟨kvs,k,.inl e,rfl,rfl⟩
theorem oH.t {H:Hp} {a b:Addr} {kvs:List (List Key×V)} {k:List Key} (e:H a=some (.dT kvs)) (eb:H b=some (.tup (k.map kV))):oH H a (.ref b) (oG kvs k):=.inr ⟨kvs,k,b,.inl e,rfl,eb,rfl⟩
theorem vY.k {H:Hp} {a:Addr} {kvs:List (Key×V)} {k:Key} {v:V} (e:H a=some (.dK kvs)) (hl:kvs.length < sizeLine):vY H a (kV k) v (upd H a (.dK (putK kvs k v))):=.inl ⟨kvs,k,e,rfl,hl,rfl⟩
theorem vY.t {H:Hp} {a b:Addr} {kvs:List (List Key×V)} {k:List Key} {v:V} (e:H a=some (.dT kvs)) (eb:H b=some (.tup (k.map kV))) (hl:kvs.length < sizeLine):
  vY H a (.ref b) v (upd H a (.dT (putK kvs k v))):=.inr ⟨kvs,k,b,e,rfl,eb,hl,rfl⟩
section
variable {X:Cx} {pins:List (Addr×Obj)} {σ:St} {H:Hp} {s:Shared} {a:Addr} {y v:V} {u r:Value} {o:Option V} {A:Around} {E:Value→Shared→Prop}
theorem Inv.big (I:Inv X pins σ H s):sysModules < s.heap.objs.size:=by
 have h:mainGlobals < s.heap.objs.size:=(I.mod.glob.keeps I.bk).lt
 exact Nat.lt_trans (by decide) h
theorem Je {Q:Value→Shared→Prop} (hu:A.units + 1 < cLine) (I:Inv X pins σ H s) (g:oH H a y (some v)) (ry:RelV y u) (h:∀w' s',Inv X pins σ H s'→RelV v w'→Q w' s'):
  wpAny (model X.prog X.w) A (getItem (.ref a) u) Q E s:=by
 rcases g with ⟨kvs,k,e,ey,l⟩ | ⟨kvs,k,b,e,ey,eb,l⟩
 ·subst ey
  obtain ⟨z,hd,vs,rel,dd⟩:=xj I.hok e
  obtain ⟨w',hw,rw'⟩:=qX.some_of (v:=v) (o:=valueAt vs k) (by rw [l]; exact rel.val k)
  exact wpAny_getItem_of (uo ry) dd.mapOf hw (h w' _ (I.tok _) rw')
 ·subst ey
  cases (show u=Value.ref b from ry)
  obtain ⟨z,hd,xs,rel,dd⟩:=Am I.hok e
  obtain ⟨w',hw,rw'⟩:=qX.some_of (v:=v) (o:=(atKey xs k).map (·.2)) (by rw [l]; exact rel.val k)
  obtain ⟨p,hp,hp2⟩:=Option.map_eq_some_iff.mp hw
  refine wpAny_getItem_heap (tupleKind_room_in1 hu) (uq I.hok eb) dd hp ?_
  rw [hp2]
  exact h w' _ (I.tok _) rw'
theorem Wx {Q:Value→Shared→Prop} (hu:A.units + 1 < cLine) (I:Inv X pins σ H s) (g:oH H a y o) (ry:RelV y u) (h:∀s',Inv X pins σ H s'→Q (.bool o.isSome) s'):
  wpAny (model X.prog X.w) A (compareOp .In u (.ref a)) Q E s:=by
 rcases g with ⟨kvs,k,e,ey,l⟩ | ⟨kvs,k,b,e,ey,eb,l⟩
 ·subst ey
  obtain ⟨z,hd,vs,rel,dd⟩:=xj I.hok e
  refine wpAny_in_of (uo ry) hd dd.mapOf ?_
  rw [←(rel.val k).jR,←l]
  exact h _ (I.tok _)
 ·subst ey
  cases (show u=Value.ref b from ry)
  obtain ⟨z,hd,xs,rel,dd⟩:=Am I.hok e
  refine wpAny_in_heap (tupleKind_room_in1 hu) (uq I.hok eb) hd dd ?_
  have q:=(rel.val k).jR
  rw [Option.isSome_map] at q
  rw [←q,←l]
  exact h _ (I.tok _)
theorem GD {Q:Value→Shared→Prop} (hu:A.units + 1 < cLine) (I:Inv X pins σ H s) (g:oH H a y o) (ry:RelV y u) (h:∀s',Inv X pins σ H s'→Q (.bool (!o.isSome)) s'):
  wpAny (model X.prog X.w) A (compareOp .NotIn u (.ref a)) Q E s:=by
 rcases g with ⟨kvs,k,e,ey,l⟩ | ⟨kvs,k,b,e,ey,eb,l⟩
 ·subst ey
  obtain ⟨z,hd,vs,rel,dd⟩:=xj I.hok e
  refine wpAny_notIn_of (uo ry) hd dd.mapOf ?_
  rw [←(rel.val k).jR,←l]
  exact h _ (I.tok _)
 ·subst ey
  cases (show u=Value.ref b from ry)
  obtain ⟨z,hd,xs,rel,dd⟩:=Am I.hok e
  refine wpAny_notIn_heap (tupleKind_room_in1 hu) (uq I.hok eb) hd dd ?_
  have q:=(rel.val k).jR
  rw [Option.isSome_map] at q
  rw [←q,←l]
  exact h _ (I.tok _)
theorem kJ {h':Heap} {t':Nat} {ob:HO} (I:Inv X pins σ H s) (mu:VL (H a)) (hs:Heap.SameBut a s.heap h') (he:∃q,h'.get? a=some q) (new:bW X.prog X.w (upd H a ob) h' a ob):
  Inv X pins σ (upd H a ob) { s with heap:=h',toks:=t' }:=
 I.write (x:=a) (e:=a) mu (.inl rfl) (fun b q hb z=>(hs.2 b hb).trans z) he new
theorem yO {P:Program} {w:World} {H':Hp} {h':Heap} {kvs:List (Key×V)} {vs:List (Key×Value)} (z:kvs.length≤sizeLine) (hd:(a==sysModules)=false) (rel:KV kvs vs) (dd:h'.DictOf (cj P w) a vs):
  bW P w H' h' a (.dK kvs):=⟨z,hd,vs,rel,dd⟩
theorem xm {H':Hp} {Q:Unit→Shared→Prop} (hu:A.units + 1 < cLine) (I:Inv X pins σ H s) (g:vY H a y v H') (ry:RelV y u) (rv:RelV v r) (h:∀s',Inv X pins σ H' s'→Q () s'):
  wpAny (model X.prog X.w) A (setItem (.ref a) u r) Q E s:=by
 rcases g with ⟨kvs,k,e,ey,l,eH⟩ | ⟨kvs,k,b,e,ey,eb,l,eH⟩
 ·subst ey eH
  obtain ⟨z,hd,vs,rel,dd⟩:=GC I.hok e
  have hz:vs.length≤sizeLine:=by rw [←rel.length]; exact z
  have hl:(putK kvs k v).length≤sizeLine:=by have:=jk kvs k v; omega
  refine wpAny_setItem_pairs (hsz:=hz) (uo ry) dd fun h' Oz hs=>h _ ?_
  have he:∃q,h'.get? a=some q:=let ⟨q,_,_,hq,_⟩:=Oz; ⟨q,hq⟩
  exact kJ I (by rw [e]; exact True.intro) hs he (yO hl hd (rel.put k rv) Oz)
 ·subst ey eH
  cases (show u=Value.ref b from ry)
  obtain ⟨z,hd,xs,rel,dd⟩:=Ww I.hok e
  have hz:xs.length≤sizeLine:=by rw [←Paired.length rel]; exact z
  have hl:(putK kvs k v).length≤sizeLine:=by have:=jk kvs k v; omega
  refine wpAny_setItem_heap (hsz:=hz) (tupleKind_room_in1 hu) (uq I.hok eb) dd fun h' Oz hs=>h _ ?_
  obtain ⟨q,es,ep,hq,h2,h3,h4,_,h5⟩:=Oz
  refine kJ I (by rw [e]; exact True.intro) hs ⟨q,hq⟩ ⟨hl,hd,_,(rel.put k eb rv).keeps fun c ys ec=>?_,q,es,ep,hq,h2,h3,h4,h5⟩
  rw [aJ (Kf ec e (fun z=>nomatch z))]
  exact ec
end
section
variable {X:Cx} {pins:List (Addr×Obj)} {σ:St} {H:Hp} {s:Shared} {a:Addr} {kvs:List (Key×V)} {k:Key} {u:Value} {A:Around} {E:Value→Shared→Prop}
theorem Wy {Q:Value→Shared→Prop} (I:Inv X pins σ H s) (e:Rd H a (.dK kvs)) (h:∀t s',Inv X pins σ H s'→Q (.int kvs.length t) s'):wpAny (model X.prog X.w) A (call (.builtin "len") [.ref a]) Q E s:=by
 obtain ⟨z,hd,vs,rel,dd⟩:=xj I.hok e
 refine call_len_dict hd dd (by rw [←rel.length]; rw [sizeLine_eq] at z; omega) ?_
 rw [←rel.length]
 exact h _ _ (I.tok _)
end
theorem An {X:Cx} {pins:List (Addr×Obj)} {σ:St} {H:Hp} {s:Shared} {a:Addr} {y:V} {o:Option V} (I:Inv X pins σ H s) (g:oH H a y o):s.TypeIs (.ref a) "dict":=by
 rcases g with ⟨kvs,k,e,_,_⟩ | ⟨kvs,k,b,e,_,_,_⟩
 ·obtain ⟨_,_,vs,_,dd⟩:=xj I.hok e
  exact dd.typeIs
 ·obtain ⟨_,_,xs,_,dd⟩:=Am I.hok e
  exact dd.typeIs
section
variable {X:Cx} {o i e value:Expr} {pos pos' tpos:Pos} {td ty tv:TE}
end
theorem ur {P:Program} {w:World} {H:Hp} (h:Heap) (hb:sysModules < h.objs.size):bW P w H (h.push { cls:=.type "dict",data:=.dict #[] }) h.objs.size (.dK []):=
 ⟨Nat.zero_le _,beq_eq_false_iff_ne.mpr (Ne.symm (Nat.ne_of_lt hb)),[],.nil,Heap.DictOf.new h⟩
noncomputable def T8:TE:=fun _ H Q=>∀p,H p=none→Q (.ref p) (upd H p (.dK []))
section
variable {X:Cx} {pos:Pos}
theorem K6:PE X (.Dict [] [] pos) T8:=fun pins s σ H Q I h=>
 wpAny_Dict_empty ⟨.ref s.heap.objs.size,_,I.laid (a:=s.heap.objs.size) (o:=.dK []) (t':=s.toks) (fun _ _ q=>Heap.get?_push_of_some _ q) (Nat.le_refl _) (ur s.heap I.big),rfl,h _ (I.hok.fresh (Nat.le_refl _))⟩
end
noncomputable def Ef:List (TE×TE)→St→Hp→(List (V×V)→Hp→Prop)→Prop
 | [],_,H,Q=>Q [] H
 | (tk,tv)::r,σ,H,Q=>tk σ H fun x H1=>tv σ H1 fun y H2=>Ef r σ H2 fun ps H3=>Q ((x,y)::ps) H3
noncomputable abbrev VV:List (V×V)→List (Value×Value)→Prop:=Paired fun p q=>RelV p.1 q.1∧RelV p.2 q.2
noncomputable def Ye (X:Cx) (pos:Pos) (keys:List (Option Expr)) (values:List Expr) (PJ:List (TE×TE)):Prop:=
 ∀(pins:List (Addr×Obj)) (s:Shared) (σ:St) (H:Hp) (Q:List (V×V)→Hp→Prop),Inv X pins σ H s→Ef PJ σ H Q→
  wpAny (model X.prog X.w) X.A (evalPairs (pairTrees keys values X.env pos)) (fun vs s'=>∃ps H',Inv X pins σ H' s'∧VV ps vs∧Q ps H') X.xe s
theorem PK {X:Cx} {pos:Pos}:Ye X pos [] [] []:=fun pins s σ H Q I h=>pairTrees_nil_walk ⟨[],H,I,.nil,h⟩
theorem K7 {X:Cx} {pos:Pos} {k v:Expr} {ks:List (Option Expr)} {vs:List Expr} {tk tv:TE} {PJ:List (TE×TE)} (hk:PE X k tk) (hv:PE X v tv) (hr:Ye X pos ks vs PJ):
  Ye X pos (some k::ks) (v::vs) ((tk,tv)::PJ):=fun pins s σ H Q I h=>
 pairTrees_cons_walk (cI (hk pins s σ H _ I h) fun u s1 ⟨x,H1,I1,rx,q1⟩=>cI (hv pins s1 σ H1 _ I1 q1) fun w2 s2 ⟨y,H2,I2,ry,q2⟩=>
  cI (hr pins s2 σ H2 _ I2 q2) fun ws s3 ⟨ps,H3,I3,rel,q3⟩=>⟨(x,y)::ps,H3,I3,.cons ⟨rx,ry⟩ rel,q3⟩)
noncomputable def uv (kvs more:List (Key×V)):List (Key×V):=more.foldl (fun acc kv=>putK acc kv.1 kv.2) kvs
theorem KV.merge:∀{more:List (Key×V)} {rs:List (Key×Value)} {kvs:List (Key×V)} {vs:List (Key×Value)},KV more rs→KV kvs vs→KV (uv kvs more) (merged vs rs):=by
 intro more rs kvs vs r
 unfold KV at r
 induction r generalizing kvs vs with
 | nil=>intro q; exact q
 | @cons p q ps qs h t ih=>
  intro r0
  have e:KV (putK kvs p.1 p.2) (stored vs q.1 q.2):=by
   have:=r0.put p.1 h.2
   rw [←h.1]; exact this
  exact ih e
theorem oR:∀(more kvs:List (Key×V)),(uv kvs more).length≤kvs.length + more.length
 | [],kvs=>by show kvs.length≤kvs.length + 0; omega
 | p::r,kvs=>by
  have h1:=oR r (putK kvs p.1 p.2)
  have h2:=jk kvs p.1 p.2
  show (uv (putK kvs p.1 p.2) r).length≤_
  rw [List.length_cons]; omega
theorem uw {P:Program} {w:World}:∀{kvs:List (Key×V)} {ws:List (Value×Value)},VV (kvs.map fun kv=>(kV kv.1,kv.2)) ws→∃rs,Carries (cj P w) ws rs∧KV kvs rs
 | [],_,r=>by rw [List.map_nil] at r; cases r; exact ⟨[],True.intro,.nil⟩
 | p::kvs,_,r=>by
  rw [List.map_cons] at r
  cases r with
  | @cons a b as bs h t=>
   obtain ⟨rs,c,q⟩:=uw (P:=P) (w:=w) t
   obtain ⟨b1,b2⟩:=b
   exact ⟨(p.1,b2)::rs,⟨uo h.1,rfl,c⟩,.cons ⟨rfl,h.2⟩ q⟩
noncomputable def Wz (PJ:List (TE×TE)):TE:=fun σ H Q=>∀p,H p=none→Ef PJ σ (upd H p (.dK [])) fun ps H2=>H2 p=some (.dK [])∧∃kvs:List (Key×V),ps=kvs.map (fun kv=>(kV kv.1,kv.2))∧kvs.length≤15∧Q (.ref p) (upd H2 p (.dK (uv [] kvs)))
theorem PL {X:Cx} {pos:Pos} {keys:List (Option Expr)} {values:List Expr} {PJ:List (TE×TE)} (h:Ye X pos keys values PJ) (hall:keys.all (·.isSome)=true) (hl:keys.length=values.length) (h0:keys≠[])
  (h15:keys.length≤15):PE X (.Dict keys values pos) (Wz PJ):=by
 intro pins s σ H Q I q
 have hn:=I.hok.fresh (Nat.le_refl s.heap.objs.size)
 have I1:=I.laid (a:=s.heap.objs.size) (o:=.dK []) (h':=s.heap.push { cls:=.type "dict",data:=.dict #[] }) (t':=s.toks) (fun _ _ q=>Heap.get?_push_of_some _ q) (Nat.le_refl _) (ur s.heap I.big)
 refine wpAny_Dict_walk (knd:=cj X.prog X.w) hall hl h0 h15 (cI (h pins _ σ _ _ I1 (q _ hn)) fun ws s2 aP=>?_)
 obtain ⟨ps,H2,I2,rel,e,kvs,ep,lk,q2⟩:=aP
 subst ep
 obtain ⟨rs,c,rk⟩:=uw (P:=X.prog) (w:=X.w) rel
 obtain ⟨z,hd,Yg,r0,dd⟩:=GC I2.hok e
 cases r0
 refine ⟨rs,c,dd,fun h' Oz hs=>⟨.ref s.heap.objs.size,_,?_,rfl,q2⟩⟩
 have hz:(uv [] kvs).length≤sizeLine:=by
  have h1:=oR kvs []
  rw [List.length_nil] at h1
  rw [sizeLine_eq]; omega
 have he:∃q,h'.get? s.heap.objs.size=some q:=let ⟨q,_,_,hq,_⟩:=Oz; ⟨q,hq⟩
 exact kJ I2 (by rw [e]; exact True.intro) hs he (yO hz hd (rk.merge .nil) Oz)
structure M1 (X:Cx) (o:Expr) (m:Str) (apos:Pos) (e:Expr) (cpos:Pos):Prop where
 base:attributeBase o m X.env (eval o X.env)=eval o X.env
 few:((backTo cpos (starEach [e] X.env)).all (fun x=>!x.1)&&(backToKw cpos (keywordEach [] X.env)).all (fun x=>x.1.isSome)
  &&decide (([e]:List Expr).length + ([]:List Keyword).length + (if ([]:List Keyword).isEmpty then 0 else 1) < 30))=true
 line:(apos.endLine==cpos.line)=true
 trees:backTo cpos (starEach [e] X.env)=[(false,eval e X.env)]
structure M2 (X:Cx) (o:Expr) (m:Str) (apos:Pos) (e f:Expr) (cpos:Pos):Prop where
 base:attributeBase o m X.env (eval o X.env)=eval o X.env
 few:((backTo cpos (starEach [e,f] X.env)).all (fun x=>!x.1)&&(backToKw cpos (keywordEach [] X.env)).all (fun x=>x.1.isSome)
  &&decide (([e,f]:List Expr).length + ([]:List Keyword).length + (if ([]:List Keyword).isEmpty then 0 else 1) < 30))=true
 line:(apos.endLine==cpos.line)=true
 trees:backTo cpos (starEach [e,f] X.env)=[(false,eval e X.env),(false,eval f X.env)]
section
variable {X:Cx} {pins:List (Addr×Obj)} {σ:St} {H:Hp} {s:Shared} {a:Addr} {y d:V} {u r:Value} {o:Option V} {A:Around} {E:Value→Shared→Prop}
end
section
variable {X:Cx} {o e f:Expr} {apos cpos:Pos} {td ty tx:TE}
end
section
variable {X:Cx} {pins:List (Addr×Obj)} {σ:St} {H:Hp} {s:Shared} {a:Addr} {kvs:List (Key×V)} {A:Around} {E:Value→Shared→Prop}
end
section
variable {X:Cx} {pins:List (Addr×Obj)} {σ:St} {H:Hp} {s:Shared} {a:Addr} {y:V} {u:Value} {A:Around} {E:Value→Shared→Prop}
end
end L2
namespace Att
open PySem PySem.W PySem.Calls PyProof.Rows
theorem sZ {P:Params} {h:Heap}:∀(ns:List Int) (vs:List Value),WellAll P h vs (ns.map WData.int)→IntsAre vs ns:=by
 intro ns
 induction ns with
 | nil=>
  intro vs w
  rw [List.map_nil] at w
  cases w
  exact .nil
 | cons n ns ih=>
  intro vs w
  rw [List.map_cons] at w
  cases w with
  | cons a b=>
   cases a
   exact .cons _ _ (ih _ b)
theorem Jf {l:OpenLaw} {n:Nat} (hn:l.most=some n) {P:Params} {h:Heap} {args:List WData} {vals:List Value}
  (hpre:l.row.toRowW.claim.pre args=true) (hwl:WellAll P h vals args):
  ∃a vs ns,vals=[Value.ref a]∧args=[WData.list (ns.map WData.int)]∧h.get? a=some { cls:=.type "list",data:=.seq vs.toArray }∧IntsAre vs ns∧ns.length≤n:=by
 have hsh:WShape.hasAll [] args [.list .int]=true:=(pre_splitW hpre).1
 have hc:l.pre.holds [] { args:=args }=true:=(pre_splitW hpre).2
 obtain ⟨d,r,rfl,h1,h2⟩:=hasAllW_cons hsh
 obtain rfl:=hasAllW_nil h2
 obtain ⟨xs,rfl,h3⟩:=hasW_list h1
 obtain ⟨ns,rfl⟩:=items_int h3
 have hlen:ns.length≤n:=by
  unfold OpenLaw.pre at hc
  have h4:(WTm.not (.lt (.lit (.int (n:Int))) (.len (.arg 0)))).holds [] { args:=[.list (ns.map .int)] }=true:=by
   have h4:=(holds_andW hc).1
   rw [hn] at h4
   exact h4
  have h5:=condW_of h4 (w_not (w_lt w_lit (w_len_list (w_arg rfl))))
  rw [List.length_map] at h5
  refine Nat.le_of_not_lt fun q=>?_
  have q':(n:Int) < ((ns.length:Nat):Int):=by omega
  first
   | (rw [decide_eq_true q'] at h5; exact absurd h5 (by decide))
   | (simp at h5; omega)
 cases hwl with
 | cons w1 w2=>
  cases w2
  cases w1 with
  | list ho hall=>exact ⟨_,_,ns,rfl,rfl,ho,sZ ns _ hall,hlen⟩
theorem Jg (l:OpenLaw) (args:List WData):l.row.toRowW.claim.post args (.bool true) args=true:=
 postW_of (r:=l.row.toRowW) (X:=(true==true))
  (show WShape.has [] (.bool true) .bool=true by first | rfl | decide | simp [WShape.has,WShape.arms,WShape.armsAll])
  (show (WTm.eq .res (.lit (.bool true))).value [] { args:=args,res:=some (.bool true),after:=args }=some (.bool (true==true)) from w_eq_bool (w_res rfl) w_lit) rfl
theorem Ao {l:OpenLaw} {n:Nat} {q:Program} {loose:List Str} {XP:(Str→Option Value)→Heap→Prop} {YP:World→Heap→Prop} {d:DefRec}
  (hn:l.most=some n) (hdf:d.params.defaults=[])
  (call:∀(w:World) (s₀ s₁:Shared) (mg mb:Str→Option Value) (fa:Addr) (o:Obj) (pm cd doc:Value) (a:Addr) (vs:List Value) (ns:List Int),
   Ground q loose [] XP w s₀ mg mb s₁.heap→YP w s₁.heap→
   s₁.heap.get? fa=some o→o.data=.func (docDef d.name d.params d.body d.scope pm cd doc)→s₁.heap.CodeRec cd d.name→mg d.name=some (.ref fa)→
   s₁.heap.get? a=some { cls:=.type "list",data:=.seq vs.toArray }→IntsAre vs ns→ns.length≤n→s₁.gens=#[]→
   codeAny (model l.prog w) callerA (.call (.ref fa) ⟨[.ref a],[]⟩) (fun r s'=>r=.ok (.ret (.bool true))∧OldK s₁.heap s'.heap∧s'.os=s₁.os∧AllBare s'.gens) s₁):
  WalkO q loose XP YP l.row.toRowW d [] (fun f vs=>PySem.call f vs):=by
 intro w s₀ s₁ mg mb G Y fa o pm cd doc dV kV ho hd hcd hD hmg hg args vals as hpre hlay hrd hwl hlo
 obtain rfl:dV=.none:=Dflts.none hD hdf
 obtain rfl:kV=.none:=Dflts.noKw hD
 obtain ⟨a,vs,ns,rfl,rfl,hobj,hints,hlen⟩:=Jf hn hpre hwl
 refine enter_call (codeAny_mono (call w s₀ s₁ mg mb fa o pm cd doc a vs ns G Y ho (fd_plain hd) hcd hmg hobj hints hlen hg) fun r s' hq=>?_)
 obtain ⟨rfl,h2,h3,h4⟩:=hq
 exact ⟨.inl ⟨.bool true,.bool true,[],rfl,fun _=>rfl,.bool true,Jg l _,fun _=>⟨List.Pairwise.nil,fun _ hm=>(nomatch hm)⟩⟩,h2,h3,h4⟩
section
variable {prog:Program} {w:World} {A:Around} {E:Value→Shared→Prop} {s:Shared} {K:Frag}
noncomputable def ledger (h:Heap) (L d:Addr):List (Addr×Obj):=(List.range h.objs.size).filterMap fun a=>if a=L∨a=d then none else (h.get? a).map fun o=>(a,o)
end
end Att
namespace L2
open PySem PySem.Spec PyProof.Rows
theorem xq:∀{vs:List Value} {ns:List Int},IntsAre vs ns→Vals (ns.map V.int) vs
 | _,_,.nil=>.nil
 | _,_,.cons n t h=>.cons ⟨t,rfl⟩ (xq h)
noncomputable def Only (H:Hp):Prop:=∀b,H b=none∨∃o xs,H b=some (.Ad o (.lst xs))
theorem K8 {P:Program} {w:World} {K:PySem.W.Frag} {mg mb:Str→Option Value} {CX:I9} {k:Nat} {fa a:Addr} {fd:FuncData} {x:Str} {sp:Sp} {s₁:Shared} {vs:List Value} {ns:List Int}
  (KX:K.In s₁.heap) (hns:s₁.heap.Ns mainGlobals mg) (hb:s₁.heap.Ns builtinsNs mb) (hbb:∀x:Str,x≠"__name__"→mb x=bootBuiltins x) (hlim:s₁.heap.NoLimit) (hg:s₁.gens=#[])
  (ha:s₁.heap.get? a=some { cls:=.type "list",data:=.seq vs.toArray }) (hi:IntsAre vs ns) (hl:ns.length≤sizeLine) (hr:gm k callerA)
  (F:∀base:Heap,K.In base→base.Ns mainGlobals mg→dG P w K mg base CX k fa fd [x] sp) (hbind:∀(s:Shared) (u:Value),BindsTo s fd ⟨[u],[]⟩ [(x,u)])
  (hsp:∀H:Hp,Only H→cZ K H a (ns.map V.int)→sp [.ref a] H (fun v _=>v=.bl true) fun _ _ _=>False)
  (Zg:∀H e s',CX [] H s₁ (fun _ _ _=>False) e s'→False):
  codeAny (model P w) callerA (.call (.ref fa) ⟨[.ref a],[]⟩) (fun r s'=>r=.ok (.ret (.bool true))∧OldK s₁.heap s'.heap∧s'.os=s₁.os∧AllBare s'.gens) s₁:=by
 have rv:=xq hi
 have lenV:=hi.length
 have core:∀H:Hp,Only H→cZ K H a (ns.map V.int)→pQ P w H s₁.heap→(∀b,H b≠none→b=a)→(H a≠none→K.lookup a=none)→
   codeAny (model P w) callerA (.call (.ref fa) ⟨[.ref a],[]⟩) (fun r s'=>r=.ok (.ret (.bool true))∧OldK s₁.heap s'.heap∧s'.os=s₁.os∧AllBare s'.gens) s₁:=by
  intro H hO hS hok hA hK
  have GF:∀{b:Addr} {o:Obj},s₁.heap.get? b=some o→H b=none→(yz s₁.heap H).get? b=some o:=fun e n=>Kg e n
  have Wm:∀{b:Addr} {o:Obj} {es:Array DictEntry} {ep:Nat},s₁.heap.get? b=some o→o.data=.dict es ep→H b=none:=fun {b o es ep} e d=>by
   cases q:H b with
   | none=>rfl
   | some u=>
    have e':b=a:=hA b (by rw [q]; simp)
    subst e'
    rw [ha] at e; cases e
    have d':Data.seq vs.toArray _=Data.dict es ep:=d
    cases d'
  have Yh:∀{b:Addr} {m:Str→Option Value},s₁.heap.Ns b m→(yz s₁.heap H).Ns b m:=fun {b m} ⟨o,es,ep,e,d,r⟩=>⟨o,es,ep,GF e (Wm e d),d,r⟩
  have hKb:K.In (yz s₁.heap H):=fun b o e=>GF (KX b o e) (by
   cases q:H b with
   | none=>rfl
   | some u=>
    have e':b=a:=hA b (by rw [q]; simp)
    subst e'
    rw [hK (by rw [q]; simp)] at e; cases e)
  have hM:Mod K mg (yz s₁.heap H):=⟨hKb,Yh hns,⟨mb,Yh hb,hbb⟩,let ⟨mc,h1,h2⟩:=hlim; ⟨mc,Yh h1,h2⟩⟩
  have e0:DR P w K mg (yz s₁.heap H) callerA [] s₁ H:=⟨rfl,hM,fun b o e=>O2 e,Nat.le_of_eq (Im _ _),trivial,fun b hb=>absurd (show b∈([]:List Addr) from hb) (by simp),hok,.of_eq hg⟩
  refine codeAny_mono ((F _ hKb (Yh hns)).run callerA [] s₁ H ⟨[.ref a],[]⟩ [.ref a] [.ref a] _ _ hr e0 (hbind s₁ (.ref a)) (.cons rfl .nil) (hsp H hO hS)) fun r s' h=>?_
  cases r with
  | error e=>exact (Zg H e s' h).elim
  | ok fl=>
   cases fl with
   | next=>exact False.elim h
   | brk=>exact False.elim h
   | cont=>exact False.elim h
   | ret u=>
    obtain ⟨v,H',os,bare,un,hok',r',q⟩:=h
    have q':v=.bl true:=q
    subst q'
    obtain rfl:u=Value.bool true:=r'
    refine ⟨rfl,OldK.of_keep fun b o e=>?_,os,bare⟩
    cases q:H b with
    | none=>exact un.keep b o e q (by intro z; exact absurd (show b∈([]:List Addr) from z) (by simp)) (by simp)
    | some u=>
     rcases hO b with z | ⟨ob,xs,z⟩
     ·rw [q] at z; cases z
     ·have z2:=un.qY b ob _ z
      obtain ⟨e1,_⟩:=hok b _ z
      obtain ⟨e2,_⟩:=hok' b _ z2
      rw [e] at e1; cases e1
      exact e2
 cases hk:K.lookup a with
 | some o=>
  have e:=KX a o hk
  rw [ha] at e
  cases e
  refine core (fun _=>none) (fun _=>.inl rfl) (.inr ⟨_,vs.toArray,_,hk,rfl,rfl,rfl,by rw [List.size_toArray,lenV]; exact hl,by simpa using rv⟩) (fun b u z=>by have z':(none:Option HO)=some u:=z; cases z') (fun b z=>absurd rfl z) fun z=>absurd rfl z
 | none=>
  refine core (fun b=>if b=a then some (.Ad { cls:=.type "list",data:=.seq vs.toArray } (.lst (ns.map V.int))) else none) (fun b=>?_) (.inl (.inr ⟨{ cls:=.type "list",data:=.seq vs.toArray },if_pos rfl⟩)) (fun b u z=>?_) (fun b z=>?_) fun _=>hk
  ·by_cases hb:b=a
   ·exact .inr ⟨_,_,if_pos hb⟩
   ·exact .inl (if_neg hb)
  ·by_cases hb:b=a
   ·have z':=(if_pos hb).symm.trans z
    cases z'
    subst hb
    exact ⟨ha,by rw [List.length_map]; exact hl,vs,_,rv,ha⟩
   ·have z':=(if_neg hb).symm.trans z
    cases z'
  ·by_cases hb:b=a
   ·exact hb
   ·exact absurd (if_neg hb) z
end L2
namespace L2
open PySem PySem.Spec PyProof.Rows
theorem PN {l:PySem.W.OpenLaw} {n k:Nat} {q:Program} {loose:List Str} {XP:(Str→Option Value)→Heap→Prop} {YP:World→Heap→Prop} {d:DefRec} {K:Params→PySem.W.Frag} {CX:World→I9} {sp:World→Sp} {x:Str}
  (hn:l.most=some n) (hn2:n≤sizeLine) (hdf:d.params.defaults=[]) (hr:gm k callerA)
  (hY:∀(w:World) (h:Heap),YP w h→(K w.params).In h)
  (F:∀(w:World) (mg:Str→Option Value) (fa:Addr) (h:Heap),(K w.params).In h→h.Ns mainGlobals mg→mg d.name=some (.ref fa)→
   ∃fd:FuncData,(∀(s:Shared) (u:Value),BindsTo s fd ⟨[u],[]⟩ [(x,u)])∧
    ∀base:Heap,(K w.params).In base→base.Ns mainGlobals mg→dG l.prog w (K w.params) mg base (CX w) k fa fd [x] (sp w))
  (hsp:∀(w:World) (H:Hp) (a:Addr) (ns:List Int),ns.length≤n→Only H→cZ (K w.params) H a (ns.map V.int)→sp w [.ref a] H (fun v _=>v=.bl true) fun _ _ _=>False)
  (Zg:∀(w:World) (H:Hp) (s:Shared) (e:Value) (s':Shared),CX w [] H s (fun _ _ _=>False) e s'→False):
  PySem.W.WalkO q loose XP YP l.row.toRowW d [] (fun f vs=>PySem.call f vs):=by
 refine Att.Ao hn hdf fun w s₀ s₁ mg mb fa o pm cd doc a vs ns G Y ho hd hcd hmg hobj hints hlen hg=>?_
 have KX:=hY w _ Y
 obtain ⟨fd,hb,hF⟩:=F w mg fa _ KX G.T.g hmg
 exact K8 KX G.T.g G.T.b G.T.builtins G.T.nolimit hg hobj hints (Nat.le_trans hlen hn2) hr hF hb (fun H hO hS=>hsp w H a ns hlen hO hS) fun H e s'=>Zg w H s₁ e s'
end L2
namespace L2
open PySem PySem.Spec PyProof.Rows
noncomputable def bR (s:Stmt):Arguments:=match s with
 | .FunctionDef _ a _ _ _ _ _ _ _ _=>a
 | _=>{ posonlyargs:=[],args:=[],vararg:=none,kwonlyargs:=[],kw_defaults:=[],kwarg:=none,defaults:=[] }
noncomputable def bH (s:Stmt):List Stmt:=match s with
 | .FunctionDef _ _ b _ _ _ _ _ _ _=>b
 | _=>[]
noncomputable def aD (s:Stmt):Scope:=match s with
 | .FunctionDef _ _ _ _ _ _ sc _ _ _=>sc
 | _=>{ kind:=.function,names:=[],isGenerator:=false,isCoroutine:=false }
noncomputable abbrev qb:I9:=fun _ _ _ _ _ _=>False
noncomputable abbrev E0:XK:=fun _ _ _=>False
theorem WD {X:Cx}:Passes qb X E0:=fun _ _ _ _ _ _ _ h=>h.elim
structure su (K:PySem.W.Frag) (x qual:Str) (st:Stmt) (f:Addr) (fd:FuncData):Prop where
 ex:∃(oc:Value) (od:Option Addr) (kV doc pm:Value) (an:Option Addr) (cdv ct:Value) (osl:Array (Option Value)),
  fd=PySem.W.fnOf x qual (bR st) (bH st) (aD st) .none kV doc pm an cdv ct∧K.lookup f=some ⟨oc,od,.func fd,osl⟩∧PySem.W.codeIn K cdv qual=true
 kp:PySem.W.keepIn K (.ref f)=true
section
variable {P:Program} {w:World} {K:PySem.W.Frag} {mg:Str→Option Value} {base:Heap}
theorem su.ok {x qual:Str} {st:Stmt} {f:Addr} {fd:FuncData} {N ps:List Str} {k:Nat} {sp:Sp} (F:su K x qual st f fd) (S:bV N ps (aD st)) (len:∀vs H Q E,sp vs H Q E→vs.length=ps.length)
  (hbody:∀(cdv:Value) (A:Around) (outer:List Env) (s:Shared) (H:Hp) (vs:List V) (Q:VK) (E:XK),gm k (A.deeper (envOfC qual (aD st) s.heap.objs.size f cdv))→sp vs H Q E→
   ∃t,sY (DW qb P w K mg base N qual (aD st) f cdv A outer s H E).O6 (bH st) t∧t { nx:=fun _ H'=>Q .non H',rt:=Q } (start N vs) H):dG P w K mg base qb (k + 1) f fd ps sp:=by
 obtain ⟨oc,od,kV,doc,pm,an,cdv,ct,osl,rfl,lk,hcd⟩:=F.ex
 refine Wn lk hcd S len fun A outer s H vs Q E hr hsp=>?_
 obtain ⟨t,h,q⟩:=hbody cdv A outer s H vs Q E hr hsp
 exact ⟨t,h.O6,q⟩
theorem su.binds {x qual:Str} {st:Stmt} {f:Addr} {fd:FuncData} {ps:List Str} (F:su K x qual st f fd)
  (h:∀(kV doc pm:Value) (an:Option Addr) (cdv ct:Value) (us:List Value),us.length=ps.length→bindArgs (PySem.W.fnOf x qual (bR st) (bH st) (aD st) .none kV doc pm an cdv ct) ⟨us,[]⟩=pure (ps.zip us)):Binds K fd ps []:=by
 obtain ⟨oc,od,kV,doc,pm,an,cdv,ct,osl,rfl,lk,hcd⟩:=F.ex
 exact .all (h kV doc pm an cdv ct)
theorem cV {x qual:Str} {st:Stmt} {f:Addr} {oc:Value} {od an:Option Addr} {osl:Array (Option Value)} {kV doc pm cdv ct:Value} (l:K.lookup f=some ⟨oc,od,.func (PySem.W.fnOf x qual (bR st) (bH st) (aD st) .none kV doc pm an cdv ct),osl⟩)
  (c:PySem.W.codeIn K cdv qual=true) (k:PySem.W.keepIn K (.ref f)=true):su K x qual st f (PySem.W.fnOf x qual (bR st) (bH st) (aD st) .none kV doc pm an cdv ct):=⟨⟨oc,od,kV,doc,pm,an,cdv,ct,osl,rfl,l,c⟩,k⟩
end
section
variable {X:Cx}
theorem pv (i:Nat) {x:Str} {pos:Pos} (hN:X.N[i]?=some x:=by rfl) (hv:X5 X.env.scope x:=by first | exact Or.inl rfl | exact Or.inr (Or.inl rfl) | exact Or.inr (Or.inr rfl)) (hd:(x==("__debug__":Str))=false:=by decide)
  (hcd:(x==("__classdict__":Str))=false:=by decide):PE X (.Name x pos) (uc i):=SQ hN hv hd hcd
end
theorem vZ {A B:Prop} (h:B):if false=true then A else B:=by
 rw [if_neg Bool.false_ne_true]
 exact h
theorem wg {A B:Prop} (h:A):if true=true then A else B:=by
 rw [if_pos rfl]
 exact h
noncomputable def aQ (H H':Hp):Prop:=∀b o,H b=some o→H' b=some o
theorem aQ.refl (H:Hp):aQ H H:=fun _ _ h=>h
theorem aQ.trans {H H1 H2:Hp} (a:aQ H H1) (b:aQ H1 H2):aQ H H2:=fun c o h=>b c o (a c o h)
theorem aQ.free {H H':Hp} (e:aQ H H') {l:Addr} (h:H' l=Option.none):H l=Option.none:=by
 cases q:H l with
 | none=>rfl
 | some o=>
  rw [e l o q] at h
  cases h
theorem aQ.seq {K:PySem.W.Frag} {H H':Hp} {a:Addr} {xs:List V} (e:aQ H H') (h:cZ K H a xs):cZ K H' a xs:=by
 rcases h with (h | ⟨o,h⟩) | h
 ·exact .inl (.inl (e _ _ h))
 ·exact .inl (.inr ⟨o,e _ _ h⟩)
 ·exact .inr h
section
variable {X:Cx}
theorem Jh:dZ X (.builtin "len") (fun xs H Q=>∃a kvs,xs=[V.ref a]∧H a=some (.dK kvs)∧Q (.int kvs.length) H):=by
 intro pins s σ H xs us Q I r h
 obtain ⟨a,kvs,rfl,ha,q⟩:=h
 obtain ⟨u,rfl,ru⟩:=vals1 r
 cases ru
 exact Wy I (.inl ha) fun t s' I'=>⟨.int kvs.length,H,I',⟨t,rfl⟩,q⟩
end
section
variable {κ:Type} [DecidableEq κ]
end
end L2
namespace L2
open PySem PySem.Spec PyProof.Rows
noncomputable def Cx.blk (X:Cx) (N:List Str) (scope:Scope) (cl:List (Str×Addr)) (C:Addr) (s:Shared) (H:Hp) (fp:List Addr):Cx:=
 { X with N:=N,s₀:=s,H₀:=H,env:=compEnvC scope cl C X.env,outer:=X.stack,ex:=fp,fn:=fun _=>false,pn:=[],xe:=fun _ _=>False }
theorem mV {env:Env} (f:Str×NameKind→List (Str×Addr)→Sem (ForInStep (List (Str×Addr))))
  (hf:∀n k r,f (n,k) r=if k==NameKind.free then (do let c ←cellOf env n; pure (.yield ((n,c)::r))) else pure (.yield r)):
  ∀(names:List (Str×NameKind)) (cs:List (Str×Addr)),(∀y∈names,y.2=.free→∃c,env.cells.lookup y.1=some c)→(∀n c,cs.lookup n=some c→env.cells.lookup n=some c)→
   ∃cl,(forIn names cs f:Sem (List (Str×Addr)))=pure cl∧(∀n c,cl.lookup n=some c→env.cells.lookup n=some c)∧
    ∀n,((∃c,cs.lookup n=some c)∨∃y∈names,y.1=n∧y.2=.free)→∃c,cl.lookup n=some c
 | [],cs,_,h2=>⟨cs,rfl,h2,fun n h=>h.elim id fun ⟨_,hy,_⟩=>nomatch hy⟩
 | (n,k)::r,cs,h1,h2=>by
  rw [List.forIn_cons,hf]
  by_cases hk:k=.free
  ·subst hk
   obtain ⟨c,hc⟩:=h1 (n,.free) List.mem_cons_self rfl
   have hc':env.cells.lookup n=some c:=hc
   have e:cellOf env n=pure c:=by unfold cellOf; rw [hc']
   obtain ⟨cl,q1,q2,q3⟩:=mV f hf r ((n,c)::cs) (fun y hy=>h1 y (List.mem_cons_of_mem _ hy)) (fun m d hm=>by
    rw [List.lookup_cons] at hm
    by_cases hb:(m==n)=true
    ·rw [hb] at hm
     have:=eq_of_beq hb
     subst this
     cases hm
     exact hc'
    ·rw [Bool.not_eq_true] at hb
     rw [hb] at hm
     exact h2 m d hm)
   refine ⟨cl,?_,q2,fun m hm=>q3 m ?_⟩
   ·rw [if_pos (show (NameKind.free==NameKind.free)=true from rfl),e]
    simp only [pure_bind]
    exact q1
   ·by_cases hb:m=n
    ·subst hb
     exact .inl ⟨c,by simp [List.lookup_cons]⟩
    ·rcases hm with ⟨d,hm⟩ | ⟨y,hy,e1,e2⟩
     ·refine .inl ⟨d,?_⟩
      rw [List.lookup_cons,beq_eq_false_iff_ne.mpr hb]
      exact hm
     ·rcases List.mem_cons.mp hy with rfl | hy
      ·exact absurd e1.symm hb
      ·exact .inr ⟨y,hy,e1,e2⟩
  ·have hb:(k==NameKind.free)=false:=beq_eq_false_iff_ne.mpr hk
   obtain ⟨cl,q1,q2,q3⟩:=mV f hf r cs (fun y hy=>h1 y (List.mem_cons_of_mem _ hy)) h2
   refine ⟨cl,?_,q2,fun m hm=>q3 m ?_⟩
   ·rw [hb]
    simp only [Bool.false_eq_true,if_false,pure_bind]
    exact q1
   ·rcases hm with hm | ⟨y,hy,e1,e2⟩
    ·exact .inl hm
    ·rcases List.mem_cons.mp hy with rfl | hy
     ·exact absurd e2 hk
     ·exact .inr ⟨y,hy,e1,e2⟩
theorem kO {env:Env} {scope:Scope} (h1:∀y∈scope.names,y.2=.free→∃c,env.cells.lookup y.1=some c):
  ∃cl,closureFor scope env=pure cl∧(∀n c,cl.lookup n=some c→env.cells.lookup n=some c)∧∀y∈scope.names,y.2=.free→∃c,cl.lookup y.1=some c:=by
 unfold closureFor
 obtain ⟨cl,q1,q2,q3⟩:=mV (env:=env) (fun x r=>if (x.2==NameKind.free)=true then (do let c ←cellOf env x.1; pure (.yield ((x.1,c)::r))) else pure (.yield r)) (fun n k r=>rfl) scope.names [] h1 (fun n c h=>by simp at h)
 have q:=congrArg (fun t:Sem (List (Str×Addr))=>t >>= fun cs=>pure cs) q1
 simp only [pure_bind] at q
 exact ⟨cl,q,q2,fun y hy e=>q3 y.1 (.inr ⟨y,hy,rfl,e⟩)⟩
theorem qe {scope:Scope} {env:Env} {x:Str}:∀{names:List (Str×NameKind)},
  (names.map fun (n,k)=>if (k==NameKind.free&&env.scope.kind==.function&&env.kindOf n==some .cell) then (n,NameKind.cell) else (n,k)).lookup x=
   (names.lookup x).map fun k=>if (k==NameKind.free&&env.scope.kind==.function&&env.kindOf x==some .cell) then NameKind.cell else k
 | []=>rfl
 | (n,k)::r=>by
  have ih:=@qe scope env x r
  show List.lookup x ((if (k==NameKind.free&&env.scope.kind==.function&&env.kindOf n==some .cell)=true then (n,NameKind.cell) else (n,k))::_)=_
  cases hx:x==n with
  | true=>
   have e:=eq_of_beq hx
   subst e
   by_cases hc:(k==NameKind.free&&env.scope.kind==.function&&env.kindOf x==some .cell)=true
   ·rw [if_pos hc]; simp only [List.lookup_cons,beq_self_eq_true,Option.map_some,hc,if_true]
   ·rw [if_neg hc]; simp only [List.lookup_cons,beq_self_eq_true,Option.map_some,hc,if_false]; rfl
  | false=>
   by_cases hc:(k==NameKind.free&&env.scope.kind==.function&&env.kindOf n==some .cell)=true
   ·rw [if_pos hc]; simp only [List.lookup_cons,hx]; exact ih
   ·rw [if_neg hc]; simp only [List.lookup_cons,hx]; exact ih
noncomputable def frees (js:List Nat) (σ:St):St:=js.map fun j=>(σ[j]?).join
section
variable {X:Cx} {pins:List (Addr×Obj)} {σ:St} {H:Hp} {s s1:Shared} {NT NF:List Str} {js:List Nat} {scope:Scope} {cl:List (Str×Addr)} {fp:List Addr}
structure jT (X:Cx) (NT NF:List Str) (js:List Nat) (scope:Scope):Prop where
 kind:scope.kind=.function
 names:∀y∈scope.names,y.2=.local→scope.names.lookup y.1=some .local
 cell:∀y∈scope.names,y.2≠.cell
 free:∀y∈scope.names,y.2=.free→X.env.scope.names.lookup y.1=some .cell∨X.env.scope.names.lookup y.1=some .free
 len:js.length=NF.length
 fr:∀(k:Nat) (j:Nat) (x:Str),js[k]?=some j→NF[k]?=some x→X.N[j]?=some x∧scope.names.lookup x=some .free
 tg:∀x∈NT,scope.names.lookup x=some .local
 nd:(NT++NF).Nodup
theorem Inv.blk (I:Inv X pins σ H s) (B:jT X NT NF js scope) (q2:∀n c,cl.lookup n=some c→X.env.cells.lookup n=some c) (q3:∀y∈scope.names,y.2=.free→∃c,cl.lookup y.1=some c)
  (hf:∀b∈fp,jg X pins H b) (hlt:∀b∈fp,b < s.heap.objs.size) {m:Str→Option Value} (hns:s1.heap.Ns s.heap.objs.size m) (keep:∀b o,s.heap.get? b=some o→s1.heap.get? b=some o)
  (hos:s1.os=s.os) (hg:AllBare s1.gens):
  Inv (X.blk (NT++NF) scope cl s.heap.objs.size s H fp) [] (List.replicate NT.length none++frees js σ) H s1:=by
 have look:∀x,(X.blk (NT++NF) scope cl s.heap.objs.size s H fp).env.kindOf x=(scope.names.lookup x).map fun k=>if (k==NameKind.free&&X.env.scope.kind==.function&&X.env.kindOf x==some .cell) then NameKind.cell else k:=fun x=>qe (scope:=scope)
 have T9:∀x,((X.blk (NT++NF) scope cl s.heap.objs.size s H fp).env.kindOf x=some .cell∨(X.blk (NT++NF) scope cl s.heap.objs.size s H fp).env.kindOf x=some .free)→scope.names.lookup x=some .free:=fun x h=>by
  rw [look] at h
  cases e:scope.names.lookup x with
  | none=>rw [e] at h; simp at h
  | some k=>
   rw [e] at h
   by_cases hk:k=.free
   ·rw [hk]
   ·have hb:(k==NameKind.free)=false:=beq_eq_false_iff_ne.mpr hk
    simp only [Option.map_some,hb,Bool.false_and,Bool.false_eq_true,if_false,Option.some.injEq] at h
    rcases h with h | h
    ·subst h
     exact absurd rfl (B.cell _ (PySem.mem_of_lookup e))
    ·exact absurd h hk
 have ltC:∀c x,X.env.cells.lookup x=some c→c < s.heap.objs.size:=fun c x e=>by
  obtain ⟨v,q⟩:=I.cell x c e
  exact q.lt
 refine ⟨⟨I.ok.mod,B.kind,I.ok.glob,I.ok.blt,Nat.le_refl _,fun x y c h1 h2=>I.ok.inj x y c (q2 x c h1) (q2 y c h2),fun x hx=>?_,fun x c h _=>(nomatch (show false=true from h)),I.ok.hd,I.ok.frames,.inl rfl,fun b hb=>⟨Nat.ne_of_lt (hlt b hb),fun x c e=>(hf b hb).2.2.2.2.1 x c (q2 x c e)⟩,I.bs,Nat.le_trans I.ok.Ox I.sz,fun b o e hb=>?_,fun b hb hb2=>?_,I.stack,I.Gp⟩,
  hos,hg,Un.kept keep,⟨m,hns,fun i x v h1 h2 h3=>?_⟩,fun x c e=>?_,I.hok.fresh (Nat.le_refl _),fun x c e=>I.mQ x c (q2 x c e),fun p hp=>(nomatch (show p∈([]:List (Addr×Obj)) from hp)),I.hok.kept keep,?_⟩
 ·exact q3 _ (PySem.mem_of_lookup (T9 x hx)) rfl
 ·rcases (hf b hb).2.2.2.1 with z | z
  ·exact I.ok.Kh b o e z
  ·exact absurd (Nat.lt_of_lt_of_le (Heap.lt_size e) (Nat.le_trans I.ok.Ox z)) (Nat.lt_irrefl _)
 ·obtain ⟨_,f1,f2,_⟩:=hf b hb
  rcases List.mem_cons.mp (I.qZ b hb2) with z | z
  ·exact f1 z
  ·exact f2 z
 ·have h1':(NT++NF)[i]?=some x:=h1
  by_cases hi:i < NT.length
  ·rw [List.getElem?_append_left (by simpa using hi),List.getElem?_replicate] at h2
   split at h2 <;> cases h2
  ·have hi':NT.length≤i:=by omega
   rw [List.getElem?_append_right (by simpa using hi')] at h2
   rw [List.getElem?_append_right hi'] at h1'
   simp only [List.length_replicate] at h2
   unfold frees at h2
   rw [List.getElem?_map] at h2
   cases ej:js[i - NT.length]? with
   | none=>rw [ej] at h2; cases h2
   | some j=>
    rw [ej] at h2
    have h2':(σ[j]?).join=some v:=by simpa using h2
    obtain ⟨g1,g2⟩:=B.fr _ j x ej h1'
    have hj:σ[j]?=some (some v):=by
     cases e:σ[j]? with
     | none=>rw [e] at h2'; cases h2'
     | some o=>rw [e] at h2'; simp at h2'; rw [h2']
    have hk:=B.free _ (PySem.mem_of_lookup g2) rfl
    have hk':X.env.scope.names.lookup x=some .cell∨X.env.scope.names.lookup x=some .free:=hk
    obtain ⟨m0,hn0,hl0⟩:=I.loc
    obtain ⟨u,r,l⟩:=hl0 j x v g1 hj (.inr hk')
    refine ⟨u,r,.inr ⟨?_,?_⟩⟩
    ·rw [look,g2]
     by_cases hc:(NameKind.free==NameKind.free&&X.env.scope.kind==.function&&X.env.kindOf x==some .cell)=true
     ·left
      simp only [Option.map_some,hc,if_true]
     ·right
      simp only [Option.map_some,hc,if_false]
      rfl
    ·rcases l with ⟨k0,_⟩ | ⟨_,c,e,z⟩
     ·have k0':X.env.scope.names.lookup x=some .local:=k0
      rcases hk' with z | z <;> rw [z] at k0' <;> cases k0'
     ·obtain ⟨c',hc'⟩:=q3 _ (PySem.mem_of_lookup g2) rfl
      have hc2:cl.lookup x=some c':=hc'
      have e2:=q2 x c' hc2
      rw [e] at e2
      cases e2
      obtain ⟨o,ho,hd⟩:=z
      exact ⟨c,hc2,o,keep c o ho,hd⟩
 ·obtain ⟨v,o,ho,hd⟩:=I.cell x c (q2 x c e)
  exact ⟨v,o,keep c o ho,hd⟩
 ·show (List.replicate NT.length none++frees js σ).length=(NT++NF).length
  unfold frees
  simp [B.len]
theorem Inv.K9 {N:List Str} {σ':St} {H':Hp} {s':Shared} {Gr:List (Addr×Obj)} (I:Inv X pins σ H s) (hf:∀b∈fp,jg X pins H b) (J:Inv (X.blk N scope cl s.heap.objs.size s H fp) Gr σ' H' s'):Inv X pins σ H' s':=
 I.call' J.os J.base J.hok J.bare fun b hb=>⟨(hf b hb).2.2.2.1,(hf b hb).2.1,(hf b hb).2.2.2.2.1,(hf b hb).2.2.2.2.2⟩
end
end L2
namespace L2
open PySem PySem.Spec PyProof.Rows
theorem PX {α:Type} (a:List α) (x y:α) (b:List α) {n:Nat} (h:a.length=n):(a++x::b).set n y=a++y::b:=by
 subst h
 rw [List.set_append_right _ _ (Nat.le_refl _),Nat.sub_self]
 rfl
inductive oU where
 | one | many (n:Nat)
noncomputable def RK (K:PySem.W.Frag):oU→V→Hp→List V→Prop
 | .one,x,_,vs=>vs=[x]
 | .many n,x,H,vs=>∃a,x=.ref a∧ig K H a vs∧vs.length=n
noncomputable def isNm (e:Expr) (x:Str):Prop:=∃pos,e=.Name x pos
noncomputable def qg (tg:Expr) (NT:List Str):oU→Prop
 | .one=>∃x,isNm tg x∧NT=[x]
 | .many n=>∃es k pos,tg=.Tuple es k pos∧Paired isNm es NT∧NT.length=n
theorem ux {env:Env}:∀{es:List Expr} {NT:List Str},Paired isNm es NT→assignEach es env=es.map fun e=>(false,assign e env)
 | _,_,.nil=>rfl
 | _,_,.cons ⟨pos,e⟩ t=>by
  subst e
  show (false,assign _ env)::assignEach _ env=_
  rw [ux t]
  rfl
section
variable {X:Cx} {pins:List (Addr×Obj)} {H:Hp} {E:Value→Shared→Prop}
theorem Ji {NT:List Str} {es:List Expr} (p:Paired isNm es NT):∀{pre NF:List Str} {σp fs:St} {s:Shared} {vs:List V} {us:List Value} {Q:Unit→Shared→Prop},
  X.N=pre++NT++NF→X.N.Nodup→(∀x∈NT,X.env.scope.names.lookup x=some .local)→σp.length=pre.length→vs.length=NT.length→
  Inv X pins (σp++(List.replicate NT.length none++fs)) H s→Vals vs us→(∀s',Inv X pins (σp++(vs.map some++fs)) H s'→Q () s')→
  wpAny (model X.prog X.w) X.A (assignInOrder (es.map fun e=>assign e X.env) us) Q E s:=by
 induction p with
 | nil=>
  intro pre NF σp fs s vs us Q hN nd hl hp hv I r q
  cases vs with
  | cons _ _=>simp at hv
  | nil=>
   cases r
   exact assignInOrder_nil (q s I)
 | @cons e x es NT he t ih=>
  intro pre NF σp fs s vs us Q hN nd hl hp hv I r q
  cases vs with
  | nil=>simp at hv
  | cons v vs=>
   cases r with
   | cons r rr=>
    obtain ⟨pos,rfl⟩:=he
    have hx:=hl x List.mem_cons_self
    have hi:X.N[pre.length]?=some x:=by
     rw [hN,List.append_assoc,List.getElem?_append_right (Nat.le_refl _)]
     simp
    refine assignInOrder_cons (wpAny_assign_Name (iK I nd hi (.inl hx) r (fun s' I'=>?_) (.inr hx)))
    have e1:(σp++(List.replicate (x::NT).length none++fs)).set pre.length (some v)=(σp++[some v])++(List.replicate NT.length none++fs):=by
     exact (PX σp none (some v) (List.replicate NT.length none++fs) hp).trans (List.append_cons σp (some v) (List.replicate NT.length none++fs))
    rw [e1] at I'
    refine ih (pre:=pre++[x]) (NF:=NF) (σp:=σp++[some v]) (by rw [hN]; simp) nd (fun y hy=>hl y (List.mem_cons_of_mem _ hy)) (by simp [hp]) (by simpa using hv) I' rr fun s2 I2=>q s2 ?_
    have e2:σp++[some v]++(vs.map some++fs)=σp++((v::vs).map some++fs):=by simp
    rw [e2] at I2
    exact I2
theorem Ua {tg:Expr} {NT NF:List Str} {T:oU} {fs:St} {s:Shared} {v:V} {u:Value} {vs:List V} {Q:Unit→Shared→Prop} (tk:qg tg NT T) (hN:X.N=NT++NF) (nd:X.N.Nodup) (hc:X.calm=true)
  (hl:∀x∈NT,X.env.scope.names.lookup x=some .local) (I:Inv X pins (List.replicate NT.length none++fs) H s) (r:RelV v u) (hv:RK X.K T v H vs)
  (q:∀s',Inv X pins (vs.map some++fs) H s'→Q () s'):wpAny (model X.prog X.w) X.A (assign tg X.env u) Q E s:=by
 cases T with
 | one=>
  obtain ⟨x,⟨pos,rfl⟩,rfl⟩:=tk
  have hv':vs=[v]:=hv
  subst hv'
  have hx:=hl x List.mem_cons_self
  exact wpAny_assign_Name (iK I nd (i:=0) (by rw [hN]; rfl) (.inl hx) r (fun s' I'=>q s' I') (.inr hx))
 | many n=>
  obtain ⟨es,k,pos,rfl,p,hn⟩:=tk
  obtain ⟨a,rfl,hq,hlen⟩:=hv
  cases r
  obtain ⟨its,rv,ht,hz⟩:=I.tuple hq
  have e:=ux (env:=X.env) p
  have hpl:=p.length
  refine assign_Tuple_tuple (I.ok.hd hc) ht (by rw [e]; simp only [List.length_map,List.size_toArray]; rw [←rv.length]; omega) (by rw [e]; simp) fun h' hx=>?_
  have I1:Inv X pins (List.replicate NT.length none++fs) H { s with heap:=h' }:=I.kept (t':=s.toks) fun b o e=>hx b o (Nat.ne_of_lt (Heap.lt_size e)) e
  rw [e,List.map_map]
  exact Ji p (pre:=[]) (σp:=[]) (by rw [hN]; rfl) nd hl rfl (by omega) I1 (by simpa using rv) q
end
noncomputable def turnOf (target iter:Expr) (ifs:List Expr) (it:Value) (env:Env) (emit:Sem Unit) (more:Sem PySem.Fin):Sem PySem.Fin:=do
 standAt iter.pos
 match ←pyNext it with
 | none=>pure (.done .next)
 | some v=>
  letOwnedTupleGo target it v
  assign target env v
  let mut ok:=true
  for c in ifs do
   if ok then ok ←isTrue c env (eval c env)
  if ok then emit
  more
theorem Eg (elt target iter:Expr) (ifs:List Expr) (scope:Scope) (pos:Pos) (it acc:Value) (env:Env):
  compTurn (.ListComp elt [⟨target,iter,ifs,0⟩] scope pos) 0 it acc env=turnOf target iter ifs it env (do let _ ←call (.builtin "list.append") [acc,←eval elt env]) (again (.compLoop (.ListComp elt [⟨target,iter,ifs,0⟩] scope pos) 0 it acc env)):=by rfl
theorem Eh (kx vx target iter:Expr) (ifs:List Expr) (scope:Scope) (pos:Pos) (it:Value) (D:Addr) (env:Env):
  compTurn (.DictComp kx vx [⟨target,iter,ifs,0⟩] scope pos) 0 it (.ref D) env=turnOf target iter ifs it env (do
      let kv ←eval kx env
      let vv ←holding [kv] (eval vx env)
      standAt { kx.pos with endLine:=vx.pos.endLine,endCol:=vx.pos.endCol }
      holding [kv,vv] (dictSet D kv vv)) (again (.compLoop (.DictComp kx vx [⟨target,iter,ifs,0⟩] scope pos) 0 it (.ref D) env)):=by rfl
theorem Jj (elt target iter:Expr) (ifs:List Expr) (scope:Scope) (pos:Pos) (it acc:Value) (env:Env):
  compTurn (.SetComp elt [⟨target,iter,ifs,0⟩] scope pos) 0 it acc env=turnOf target iter ifs it env (do let v ←eval elt env; standAt elt.pos; let _ ←call (.builtin "set.add") [acc,v]) (again (.compLoop (.SetComp elt [⟨target,iter,ifs,0⟩] scope pos) 0 it acc env)):=by rfl
noncomputable def Dr (X:Cx) (ifs:List Expr) (t:TT):Prop:=
 ∀(pins:List (Addr×Obj)) (s:Shared) (σ:St) (H:Hp) (Q:Bool→Hp→Prop),Inv X pins σ H s→t σ H Q→
  wpAny (model X.prog X.w) X.A (forIn ifs true fun c r=>if r=true then do let ok ←isTrue c X.env (eval c X.env); pure (ForInStep.yield ok) else pure (ForInStep.yield r)) (TP X pins σ Q) X.xe s
noncomputable def Zh:TT:=fun _ H Q=>Q true H
theorem P0 {X:Cx}:Dr X [] Zh:=fun _ _ _ H _ I h=>wpAny_tests_nil ⟨H,I,h⟩
theorem Qa {X:Cx} {c:Expr} {t:TT} (h:PT X c t):Dr X [c] t:=fun pins s σ H Q I q=>wpAny_tests_one (h pins s σ H Q I q)
noncomputable abbrev TM:=St→Hp→(Hp→Prop)→Prop
noncomputable def PM (X:Cx) (emit:Sem Unit) (t:TM):Prop:=
 ∀(pins:List (Addr×Obj)) (s:Shared) (σ:St) (H:Hp) (Q:Hp→Prop),Inv X pins σ H s→t σ H Q→
  wpAny (model X.prog X.w) X.A emit (fun _ s'=>∃H',Inv X pins σ H' s'∧Q H') X.xe s
noncomputable def yP (D:Addr) (te:TE):TM:=fun σ H Q=>te σ H fun y H1=>∃xs,H1 D=some (.lst xs)∧xs.length < sizeLine∧Q (upd H1 D (.lst (xs++[y])))
theorem Jk {X:Cx} {D:Addr} {elt:Expr} {te:TE} (he:PE X elt te):PM X (do let _ ←call (.builtin "list.append") [.ref D,←eval elt X.env]) (yP D te):=by
 intro pins s σ H Q I h
 refine wpAny_bind (cI (he pins s σ H _ I h) fun v s1 aP=>?_)
 obtain ⟨y,H1,I1,r1,xs,hD,hz,q⟩:=aP
 refine wpAny_bind (cI (w5 (X:=X) pins s1 σ H1 (.ref D) [y] (.ref D) [v] (fun _ H'=>Q H') I1 rfl (.cons r1 .nil) ⟨D,xs,y,rfl,rfl,hD,hz,q⟩) fun _ s2 ⟨_,H2,I2,_,q2⟩=>wpAny_pure ⟨H2,I2,q2⟩)
noncomputable def Ei (K:PySem.W.Frag) (T:oU) (ts:TT) (em:TM) (fs:St) (J:It) (H0:Hp) (done:Hp→Prop):Prop:=
 ∃W:Nat→Nat→Hp→Prop,(∃m,W 0 m H0)∧∀i m H,W i m H→
  (J.stop i H∧done H)∨(J.go i H∧∀x H',J.Rw i H x H'→∃vs,RK K T x H' vs∧
   ts (vs.map some++fs) H' fun b H2=>if b=true then em (vs.map some++fs) H2 fun H3=>∃m',m' < m∧W (i + 1) m' H3 else ∃m',m' < m∧W (i + 1) m' H2)
section
variable {X:Cx} {NT NF:List Str} {tg iter e:Expr} {ifs:List Expr} {T:oU} {ts:TT} {em:TM} {emit:Sem Unit} {acc:Value} {fp:List Addr} {it:Addr} {J:It} {tn:Nat→Heap→Prop}
theorem La {fs:St} {vs:List V} {pins:List (Addr×Obj)} {H:Hp} {s:Shared} (hv:vs.length=NT.length) (I:Inv X pins (vs.map some++fs) H s):Inv X pins (List.replicate NT.length none++fs) H s:=
 I.weak (by simp [hv]) fun i v h=>by
  by_cases hi:i < NT.length
  ·rw [List.getElem?_append_left (by simpa using hi),List.getElem?_replicate] at h
   split at h <;> cases h
  ·rw [List.getElem?_append_right (by simp; omega)] at h ⊢
   simpa [hv] using h
theorem RK.len {tg:Expr} {K:PySem.W.Frag} {x:V} {H:Hp} {vs:List V} (tk:qg tg NT T) (h:RK K T x H vs):vs.length=NT.length:=by
 cases T with
 | one=>obtain ⟨y,_,rfl⟩:=tk; rw [show vs=[x] from h]; rfl
 | many n=>obtain ⟨_,_,_,_,_,e⟩:=tk; obtain ⟨_,_,_,e'⟩:=h; omega
theorem uy {R:Result→Shared→Prop} {fs:St} {H:Hp} {s:Shared} {done:Hp→Prop} (hx:X.xe=fun _ _=>False) (hT:compTurn e 0 (.ref it) acc X.env=turnOf tg iter ifs (.ref it) X.env emit (again (.compLoop e 0 (.ref it) acc X.env)))
  (hq:(Code.compLoop e 0 (.ref it) acc X.env).isFrame=false) (hqu:(Code.compLoop e 0 (.ref it) acc X.env).quiet=true) (hA:X.A.under (Code.compLoop e 0 (.ref it) acc X.env)=X.A)
  (tk:qg tg NT T) (hN:X.N=NT++NF) (nd:X.N.Nodup) (hc:X.calm=true) (hl:∀x∈NT,X.env.scope.names.lookup x=some .local)
  (hts:Dr X ifs ts) (hem:PM X emit em) (TT:Turn X.prog X.w X.K tg J fp it tn) (hf:∀b∈fp,jg X [] H b) (I:Inv X [] (List.replicate NT.length none++fs) H s) (st:tn 0 s.heap) (hb:Ei X.K T ts em fs J H done)
  (hR:∀H' s' σ',Inv X [] σ' H' s'→done H'→R (.ok .next) s'):
  codeAny (model X.prog X.w) X.A (.compLoop e 0 (.ref it) acc X.env) R s:=by
 obtain ⟨W,⟨m0,w0⟩,turn⟩:=hb
 have stat:∀{H':Hp},(∀b∈fp,H' b=none)→∀b∈fp,jg X [] H' b:=fun hn b hb=>⟨hn b hb,(hf b hb).2⟩
 have noE:∀{α:Type} {t:Sem α} {Q:α→Shared→Prop} {E:Value→Shared→Prop} {s:Shared},wpAny (model X.prog X.w) X.A t Q (fun _ _=>False) s→wpAny (model X.prog X.w) X.A t Q E s:=fun h=>wpAny_mono h (fun _ _ z=>z) fun _ _ z=>z.elim
 have noX:∀{α:Type} {t:Sem α} {Q:α→Shared→Prop} {E:Value→Shared→Prop} {s:Shared},wpAny (model X.prog X.w) X.A t Q X.xe s→wpAny (model X.prog X.w) X.A t Q E s:=fun h=>noE (by rw [hx] at h; exact h)
 refine codeAny_loop hqu (fun n s'=>∃i H',Inv X [] (List.replicate NT.length none++fs) H' s'∧tn i s'.heap∧(∀b∈fp,H' b=none)∧W i n H') ?_ m0 ⟨0,H,I,st,fun b hb=>(hf b hb).1,w0⟩
 rintro n s3 ⟨i,H3,I3,st3,Wb,w3⟩
 rw [hA]
 show wpAny _ X.A (if (Code.compLoop e 0 (.ref it) acc X.env).isFrame=true then (compTurn e 0 (.ref it) acc X.env).onRaise (leaving X.env) else (compTurn e 0 (.ref it) acc X.env).onRaise (fun x=>do noteFrame x X.env; theTreesLotGoes x)) _ _ s3
 rw [hq,if_neg Bool.false_ne_true]
 refine wpAny_noted (noE ?_)
 rw [hT]
 unfold turnOf
 refine wpAny_bind (wpAny_standAt (wpAny_bind ?_))
 rcases turn i n H3 w3 with ⟨stop,qn⟩ | ⟨go,step⟩
 ·refine cI (TT.done X rfl rfl rfl hc i [] s3 _ H3 _ I3 (stat Wb) st3 stop) fun r s4 aP=>?_
  obtain ⟨hr,I4⟩:=aP
  subst hr
  exact wpAny_pure (hR H3 s4 _ I4 qn)
 ·refine cI (TT.item X rfl rfl rfl hc i [] s3 _ H3 _ I3 (stat Wb) st3 go) fun r s4 aP=>?_
  obtain ⟨u,hr,h4⟩:=aP
  subst hr
  refine wpAny_bind (cI h4 fun _ s5 aP=>?_)
  obtain ⟨x,H5,I5,r5,y5,Tn,Y4⟩:=aP
  have Y5:=I5.pinned (stat Y4) (TT.obj _ _ Tn)
  obtain ⟨vs,hv,q5⟩:=step x H5 y5
  have hvl:=RK.len tk hv
  refine wpAny_bind (Ua tk hN nd hc hl Y5 r5 hv fun s6 I6=>?_)
  refine wpAny_bind (noX (cI (hts _ s6 _ H5 _ I6 q5) fun b s7 aP=>?_))
  obtain ⟨H7,I7,q7⟩:=aP
  have Lb:∀{s8:Shared} {H8:Hp},Inv X ([]++uf fp s5.heap) (vs.map some++fs) H8 s8→(∃m',m' < n∧W (i + 1) m' H8)→
    (Code.compLoop e 0 (.ref it) acc X.env=Code.compLoop e 0 (.ref it) acc X.env)∧∃m,m < n∧∃i H',Inv X [] (List.replicate NT.length none++fs) H' s8∧tn i s8.heap∧(∀b∈fp,H' b=none)∧W i m H':=fun {s8 H8} I8 n8=>by
   obtain ⟨m',hm,w8⟩:=n8
   refine ⟨rfl,m',hm,i + 1,H8,La hvl I8.pU,TT.keep _ _ _ Tn fun b hb o e=>(I8.pin (b,o) (List.mem_append_right _ (List.mem_append_right _ (kI hb e)))).1,fun b hb=>?_,w8⟩
   obtain ⟨o,e,d⟩:=TT.obj _ _ Tn b hb
   exact (I8.pin (b,o) (List.mem_append_right _ (List.mem_append_right _ (kI hb e)))).2.1
  cases b with
  | false=>exact wpAny_pure (Lb I7 q7)
  | true=>exact wpAny_bind (noX (cI (hem _ s7 _ H7 _ I7 q7) fun _ s8 ⟨H8,I8,q8⟩=>wpAny_pure (Lb I8 q8)))
end
end L2
namespace L2
open PySem PySem.Spec PyProof.Rows
structure Bk where
 cl:List (Str×Addr)
 C:Addr
 s:Shared
 H:Hp
 fp:List Addr
noncomputable abbrev Cx.bk (X:Cx) (N:List Str) (scope:Scope) (b:Bk):Cx:=X.blk N scope b.cl b.C b.s b.H b.fp
section
variable {X:Cx} {NT NF:List Str} {js:List Nat} {elt kx vx tg iter e:Expr} {ifs:List Expr} {T:oU} {wi:TI} {ts:Bk→TT} {te tk' tv:Bk→TE} {scope:Scope} {pos:Pos}
noncomputable def Zi (K:PySem.W.Frag) (wi:TI) (T:oU) (ts:Bk→TT) (te:Bk→TE) (js:List Nat):TE:=fun σ H Q=>wi σ H fun J H1=>∀D,H1 D=none→∀b,Ei K T (ts b) (yP D (te b)) (frees js σ) J (upd H1 D (.lst [])) (Q (.ref D))
theorem Ld {pins:List (Addr×Obj)} {σ:St} {s2:Shared} {H2:Hp} {cl:List (Str×Addr)} {it:Addr} {fp:List Addr} {tn:Nat→Heap→Prop} {J:It} {Q:Hp→Prop} {RR:Value→Addr→Result→Shared→Prop} {E:Value→Shared→Prop}
  (B:jT X NT NF js scope) (tk:qg tg NT T) (hc:X.calm=true)
  (hin:∀b,Dr (X.bk (NT++NF) scope b) ifs (ts b)∧PE (X.bk (NT++NF) scope b) elt (te b))
  (q2:∀n c,cl.lookup n=some c→X.env.cells.lookup n=some c) (q3:∀y∈scope.names,y.2=.free→∃c,cl.lookup y.1=some c)
  (I2:Inv X pins σ H2 s2) (TT:Turn X.prog X.w X.K tg J fp it tn) (st2:tn 0 s2.heap) (f2:∀b∈fp,jg X pins H2 b)
  (q:∀b,Ei X.K T (ts b) (yP s2.heap.objs.size (te b)) (frees js σ) J (upd H2 s2.heap.objs.size (.lst [])) Q)
  (hR:∀C H' s' m,Inv X pins σ H' s'→jg X pins H' C→s'.heap.Ns C m→Q H'→RR (.ref s2.heap.objs.size) C (.ok .next) s'):
  wpAny (model X.prog X.w) X.A (newList []) (fun acc s₃=>wpAny (model X.prog X.w) X.A (newFunctionEnv scope X.env.globals cl [] X.env.qual none .none (some X.env)) (fun cenv s₄=>
   codeAny (model X.prog X.w) X.A (.compStart (.ListComp elt [⟨tg,iter,ifs,0⟩] scope pos) 0 (.ref it) acc { cenv with scope:=relabel scope X.env }) (RR acc cenv.locals) s₄) E s₃) E s2:=by
 refine wpAny_newObj_type ?_
 have hD:H2 s2.heap.objs.size=none:=I2.hok.fresh (Nat.le_refl _)
 have I3:Inv X pins σ (upd H2 s2.heap.objs.size (.lst [])) { s2 with heap:=s2.heap.push { cls:=.type "list",dict:=none,data:=.seq ([]:List Value).toArray } }:=
  I2.laid (t':=s2.toks) (fun b o e=>Heap.get?_push_of_some _ e) (Nat.le_refl _) ⟨Nat.zero_le _,[],0,.nil,Heap.get?_push_size _ rfl⟩
 have hsz:(s2.heap.push { cls:=.type "list",dict:=none,data:=.seq ([]:List Value).toArray }).objs.size=s2.heap.objs.size + 1:=Heap.size_push ..
 refine wpAny_newFunctionEnv B.cell (by intro y hy; simp at hy) (fun h₁ hns₁ hsb₁=>?_) B.kind
 have OD:∀b∈fp,b < s2.heap.objs.size:=fun b hb=>by
  obtain ⟨o,e,_⟩:=TT.obj 0 _ st2 b hb
  exact Heap.lt_size e
 have f3:∀b∈fp,jg X pins (upd H2 s2.heap.objs.size (.lst [])) b:=fun b hb=>⟨by rw [aJ (Nat.ne_of_lt (OD b hb))]; exact (f2 b hb).1,(f2 b hb).2⟩
 have keep:∀b o,(s2.heap.push { cls:=.type "list",dict:=none,data:=.seq ([]:List Value).toArray }).get? b=some o→h₁.get? b=some o:=fun b o e=>
  hsb₁.extBut b o (Nat.ne_of_lt (Heap.lt_size e)) (Heap.get?_push_of_some _ e)
 have RL:∀b∈fp,b < (s2.heap.push { cls:=.type "list",dict:=none,data:=.seq ([]:List Value).toArray }).objs.size:=fun b hb=>by have:=OD b hb; rw [hsz]; exact Nat.lt_succ_of_lt this
 have I4:=I3.blk (s1:={ s2 with heap:=h₁,toks:=s2.toks + ([]:List (Str×Value)).length }) B q2 q3 f3 RL hns₁ keep rfl I2.bare
 have RM:tn 0 h₁:=TT.keep 0 _ _ st2 fun b _ o e=>keep b o (Heap.get?_push_of_some _ e)
 obtain ⟨i1,i2⟩:=hin ⟨cl,(s2.heap.push { cls:=.type "list",dict:=none,data:=.seq ([]:List Value).toArray }).objs.size,{ s2 with heap:=s2.heap.push { cls:=.type "list",dict:=none,data:=.seq ([]:List Value).toArray } },upd H2 s2.heap.objs.size (.lst []),fp⟩
 have loop:codeAny (model X.prog X.w) X.A (.compLoop (.ListComp elt [⟨tg,iter,ifs,0⟩] scope pos) 0 (.ref it) (.ref s2.heap.objs.size) (compEnvC scope cl (s2.heap.push { cls:=.type "list",dict:=none,data:=.seq ([]:List Value).toArray }).objs.size X.env))
   (RR (.ref s2.heap.objs.size) (s2.heap.push { cls:=.type "list",dict:=none,data:=.seq ([]:List Value).toArray }).objs.size) { s2 with heap:=h₁,toks:=s2.toks + ([]:List (Str×Value)).length }:=by
  refine uy (X:=X.blk (NT++NF) scope cl (s2.heap.push { cls:=.type "list",dict:=none,data:=.seq ([]:List Value).toArray }).objs.size { s2 with heap:=s2.heap.push { cls:=.type "list",dict:=none,data:=.seq ([]:List Value).toArray } } (upd H2 s2.heap.objs.size (.lst [])) fp)
   (T:=T) (fs:=frees js σ) (done:=Q) rfl (Eg elt tg iter ifs scope pos _ _ _) rfl rfl rfl tk rfl B.nd hc (fun x hx=>lookup_relabel_local (B.tg x hx)) i1 (Jk i2) TT (fun b hb=>?_) I4 RM (q _) fun H' s' σ' J' qd=>?_
  ·exact ⟨(f3 b hb).1,Nat.ne_of_lt (RL b hb),fun hb2=>by
    rcases List.mem_cons.mp (I3.qZ b hb2) with z | z
    ·exact (f3 b hb).2.1 z
    ·exact (f3 b hb).2.2.1 z,.inl hb,fun x c e=>(f3 b hb).2.2.2.2.1 x c (q2 x c e),fun p hp=>(nomatch (show p∈([]:List (Addr×Obj)) from hp))⟩
  ·obtain ⟨m,hn,_⟩:=J'.loc
   exact hR _ H' s' m (I3.K9 f3 J') (I3.yD (Nat.le_refl _) J'.free) hn qd
 exact codeAny_compStart_list loop (TT.self _ 0 _ _ _ RM loop)
theorem WK (B:jT X NT NF js scope) (tk:qg tg NT T) (hc:X.calm=true) (hi:PI X tg iter wi)
  (hin:∀b,Dr (X.bk (NT++NF) scope b) ifs (ts b)∧PE (X.bk (NT++NF) scope b) elt (te b))
  (hs:∀x,foldedSetIterable iter X.env x=pure x:=by intro _; rfl):PE X (.ListComp elt [⟨tg,iter,ifs,0⟩] scope pos) (Zi X.K wi T ts te js):=by
 intro pins s σ H Q I h
 obtain ⟨cl,hclos,q2,q3⟩:=kO (env:=X.env) (scope:=scope) fun y hy e=>I.ok.has y.1 (B.free y hy e)
 rw [eval_ListComp]
 refine wpAny_comprehension_free (use:=none) rfl hs hclos B.kind B.names (cI (hi pins s σ H _ I h) fun v s1 h1=>cI h1 fun itv s2 aP=>?_)
 obtain ⟨it,fp,tn,J,H2,e,I2,TT,st2,f2,q⟩:=aP
 subst e
 refine Ld (Q:=fun H'=>Q (.ref s2.heap.objs.size) H') (RR:=fun acc C=>compPost (model X.prog X.w) X.A X.xe none (EP X pins σ Q) acc C) B tk hc hin q2 q3 I2 TT st2 f2 (q _ (I2.hok.fresh (Nat.le_refl _))) fun C H' s' m I' fC hn qd=>?_
 refine ⟨m,hn,fun h' sb=>⟨.ref s2.heap.objs.size,H',?_,rfl,qd⟩⟩
 exact I'.turned (t':=s'.toks) (fun b o hb e=>(sb.2 b hb).trans e) fC.1 fC.2.1 fC.2.2.2.1 fC.2.2.2.2.1 fC.2.2.2.2.2
theorem Le {i:Nat} {y:Str} {pos' spos:Pos} (B:jT X NT NF js scope) (tk:qg tg NT T) (hc:X.calm=true) (hi:PI X tg iter wi)
  (hin:∀b,Dr (X.bk (NT++NF) scope b) ifs (ts b)∧PE (X.bk (NT++NF) scope b) elt (te b))
  (hsw:swapsWith (.ListComp elt [⟨tg,iter,ifs,0⟩] scope pos) (some (.Name y pos')) spos.line X.env=pure true)
  (hN:X.N.Nodup) (hI:X.N[i]?=some y) (hy:X.env.scope.names.lookup y=some .local)
  (hs:∀x,foldedSetIterable iter X.env x=pure x:=by intro _; rfl):PS X (.Assign [.Name y pos'] (.ListComp elt [⟨tg,iter,ifs,0⟩] scope pos) spos) (Ip (Zi X.K wi T ts te js) (rZ i)):=by
 intro pins s σ H D I h
 obtain ⟨cl,hclos,q2,q3⟩:=kO (env:=X.env) (scope:=scope) fun y hy e=>I.ok.has y.1 (B.free y hy e)
 rw [exec_Assign_Name_used _ _ _ _ hsw]
 refine wpAny_bind (wpAny_standAt (wpAny_bind ?_))
 show wpAny _ X.A (do let _ ←comprehension (.ListComp elt [⟨tg,iter,ifs,0⟩] scope pos) scope X.env _ (newList []) false (eval iter X.env) (some (assign (.Name y pos') X.env))) _ _ s
 refine wpAny_bind (wpAny_mono (wpAny_comprehension_free (use:=some (assign (.Name y pos') X.env)) (Q:=fun _ s'=>SP X pins D .next s') rfl hs hclos B.kind B.names
  (cI (hi pins s σ H _ I h) fun v s1 h1=>cI h1 fun itv s2 ⟨it,fp,tn,J,H2,e,I2,TT,st2,f2,q⟩=>?_)) (fun _ s' hq=>wpAny_pure (wpAny_pure hq)) fun _ _ e=>e)
 subst e
 refine Ld (Q:=fun H'=>D.nx (σ.set i (some (.ref s2.heap.objs.size))) H') (RR:=fun acc C=>compPost (model X.prog X.w) X.A X.xe (some (assign (.Name y pos') X.env)) (fun _ s'=>SP X pins D .next s') acc C) B tk hc hin q2 q3 I2 TT st2 f2 (q _ (I2.hok.fresh (Nat.le_refl _))) fun C H' s' m I' fC hn qd=>?_
 show wpAny _ X.A (assign (.Name y pos') X.env (.ref s2.heap.objs.size)) _ _ _
 refine wpAny_assign_Name (q9 I' hN hI (.inl hy) (v:=.ref s2.heap.objs.size) rfl (fun s3 I3 aP=>?_) (.inr hy))
 obtain ⟨a,sb,ha⟩:=aP
 have Zj:C≠a:=by
  rcases ha with z | z
  ·rw [z]; exact fC.2.1
  ·exact fun w=>fC.2.2.2.2.1 y a z w.symm
 refine ⟨m,hn.sameBut sb Zj,fun h' sb'=>⟨_,H',?_,qd⟩⟩
 exact I3.turned (t':=s3.toks) (fun b o hb e=>(sb'.2 b hb).trans e) fC.1 fC.2.1 fC.2.2.2.1 fC.2.2.2.2.1 fC.2.2.2.2.2
end
end L2
namespace L2
open PySem PySem.Spec PyProof.Rows
noncomputable def Zk (z:Str):It:=⟨fun i _=>i < z.cps.size,fun i H x H'=>H'=H∧∃c,z.cps[i]?=some c∧x=.str ⟨#[c]⟩,fun i _=>z.cps.size≤i⟩
theorem Lf {P:Program} {w:World} {K:PySem.W.Frag} {tg:Expr} {z:Str} {t:Tok} {ty:String} {it:Addr} (hty:ty="str_ascii_iterator"∨ty="str_iterator") (hgo:∀i u,letOwnedTupleGo tg i u=pure ()):
  Turn P w K tg (Zk z) [it] it (fun i h=>h.IsStrIter it ty z t i) where
 mem:=by simp
 obj:=fun i h st b hb=>by
  have e:b=it:=by simpa using hb
  subst e
  obtain ⟨o,e,c,d⟩:=st
  exact ⟨o,e,fun v q=>by rw [d] at q; cases q⟩
 keep:=fun i h h' st k=>let ⟨o,ho,r⟩:=st; ⟨o,k it (by simp) o ho,r⟩
 item:=by
  intro X hP hw hK hc i pins s σ H E I hf st hg
  subst hP hw hK
  obtain ⟨f0,f1,f2,f3,f4,f5⟩:=hf it (by simp)
  have hi:i < z.cps.size:=hg
  have W:Walks X.prog X.w X.A it [it] [it] z.cps.size (SignAt z) (fun i h=>h.IsStrIter it ty z t i):=by
   rcases hty with rfl | rfl
   ·exact Walks.strAscii (I.ok.hd hc) it z t
   ·exact Walks.strWide (I.ok.hd hc) it z t
  refine W.item i s _ _ hi st fun v h' tk hv st' kk=>?_
  obtain ⟨c,u,hc',rfl⟩:=hv
  have I1:Inv X pins σ H { s with heap:=h',toks:=tk }:=I.turned (fun b o hb e=>kk b o (by simpa using hb) e) f0 f1 f3 f4 f5
  refine ⟨_,rfl,?_⟩
  rw [hgo]
  exact wpAny_pure ⟨.str ⟨#[c]⟩,H,I1,⟨u,rfl⟩,⟨rfl,c,hc',rfl⟩,st',fun b hb=>(hf b hb).1⟩
 done:=by
  intro X hP hw hK hc i pins s σ H E I hf st hg
  subst hP hw hK
  obtain ⟨f0,f1,f2,f3,f4,f5⟩:=hf it (by simp)
  have hi:z.cps.size≤i:=hg
  rcases hty with rfl | rfl
  ·exact wpAny_pyNext_ascii_end (I.ok.hd hc) st (by simpa using hi) fun h' eb=>⟨rfl,I.turned (t':=s.toks) (fun b o hb e=>eb b o hb e) f0 f1 f3 f4 f5⟩
  ·exact wpAny_pyNext_wide_end (I.ok.hd hc) st (by simpa using hi) fun h' eb=>⟨rfl,I.turned (t':=s.toks) (fun b o hb e=>eb b o hb e) f0 f1 f3 f4 f5⟩
 self:=fun _ _ _ _ _ st h=>by
  rcases hty with rfl | rfl
  ·exact wpAny_pyIter_striter_ascii st h
  ·exact wpAny_pyIter_striter_wide st h
section
variable {X:Cx} {tg:Expr}
noncomputable def Zm (tl:TE):TI:=fun σ H R=>tl σ H fun x H1=>∃z,x=.str z∧R (Zk z) H1
theorem Lg {l:Expr} {tl:TE} (hl:PE X l tl) (hgo:∀i u,letOwnedTupleGo tg i u=pure ():=by intro _ _; rfl):PI X tg l (Zm tl):=by
 intro pins s σ H R I h
 refine cI (hl pins s σ H _ I h) fun v s1 aP=>?_
 obtain ⟨x,H1,I1,r1,q1⟩:=aP
 obtain ⟨z,e,q⟩:=q1
 subst e
 obtain ⟨t,rfl⟩:=r1
 have fin:∀(o:Obj) (ty:String),(ty="str_ascii_iterator"∨ty="str_iterator")→Heap.IsStrIter (s1.heap.push o) s1.heap.objs.size ty z t 0→PIE X pins σ tg R (.ref s1.heap.objs.size) { s1 with heap:=s1.heap.push o }:=fun o ty hty st=>by
  refine ⟨s1.heap.objs.size,[s1.heap.objs.size],_,_,H1,rfl,I1.kept (t':=s1.toks) fun b o e=>Heap.get?_push_of_some _ e,Lf hty hgo,st,fun b hb=>?_,q⟩
  have e:b=s1.heap.objs.size:=by simpa using hb
  subst e
  exact I1.yD (Nat.le_refl _) (I1.hok.fresh (Nat.le_refl _))
 cases ha:z.cps.all (· < 128)
 ·exact wpAny_pyIter_wide ha (fin _ _ (.inr rfl) ⟨_,Heap.get?_push_size _ rfl,rfl,rfl⟩)
 ·exact wpAny_pyIter_ascii ha (fin _ _ (.inl rfl) ⟨_,Heap.get?_push_size _ rfl,rfl,rfl⟩)
theorem Jl:gF X (compareOp .LtE) (fun x y H Q=>∃i j,x=.str i∧y=.str j∧Q (.bl (!(decide (j.cps.toList < i.cps.toList)))) H):=by
 intro pins s σ H x y v u Q I rx ry h
 obtain ⟨i,j,rfl,rfl,q⟩:=h
 obtain ⟨t,rfl⟩:=rx
 obtain ⟨t',rfl⟩:=ry
 exact PySem.P.le_str (bB I q rfl)
theorem uz:∀{ys:List Str} {us:List Value},Vals (ys.map V.str) us→StrsAre us ys
 | [],_,h=>by cases h; exact .nil
 | y::ys,_,h=>by
  cases h with
  | cons r rr=>
   obtain ⟨t,rfl⟩:=r
   exact .cons y t (uz rr)
theorem Qc:RC X "str.join" (fun x xs H Q=>∃z p ys,x=.str z∧xs=[.ref p]∧cZ X.K H p (ys.map V.str)∧(ys.map (·.length)).sum + ys.length * z.length≤16777216∧Q (.str (Txt.join z ys)) H):=by
 intro pins s σ H x xs v us Q I rx r h
 obtain ⟨z,p,ys,rfl,rfl,hp,hz,q⟩:=h
 obtain ⟨t,rfl⟩:=rx
 obtain ⟨u,rfl,ru⟩:=vals1 r
 cases ru
 obtain ⟨its,rv,pl,_⟩:=I.list hp
 exact join_list pl.isList (by simpa using uz rv) hz fun t' k=>⟨.str _,H,I.tok _,⟨_,rfl⟩,q⟩
end
end L2
namespace L2
open PySem PySem.Spec PyProof.Rows
section
variable {X:Cx}
theorem part_of {v:Value} {o:Option Int} (h:IsPart v o):∃l:Option (Int×Tok),v=partValue l∧l.map (·.1)=o:=by
 cases h with
 | none=>exact ⟨none,rfl,rfl⟩
 | int i t=>exact ⟨some (i,t),rfl,rfl⟩
theorem Ub:Pr X (fun x lo hi H Q=>∃z,x=.str z∧z.length≤sizeLine∧Q (.str (Txt.slice z lo hi)) H):=by
 intro pins s σ H x v vl vu lo hi sl Q I rx hs pl pu h
 obtain ⟨z,rfl,hz,q⟩:=h
 obtain ⟨t,rfl⟩:=rx
 obtain ⟨l,rfl,rfl⟩:=part_of pl
 obtain ⟨u,rfl,rfl⟩:=part_of pu
 refine ⟨"str",_,F.slot_str_getitem.lookup,typeIs_str s z t,?_⟩
 exact wpAny_getItem_str_slice (l:=l) (u:=u) (st:=none) hs rfl (post_val_or_str ⟨Nat.le_trans (Txt.slice_le z _ _) hz,fun t' k=>⟨.str _,H,I.tok _,⟨t',rfl⟩,q⟩⟩)
theorem Aq:∀{bs:List Bool} {us:List Value},Vals (bs.map V.bl) us→us=bs.map Value.bool
 | [],_,h=>by cases h; rfl
 | b::bs,_,h=>by
  cases h with
  | cons r rr=>
   cases r
   rw [Aq rr]
   rfl
theorem Lh (hc:X.calm=true):dZ X (.builtin "all") (fun xs H Q=>∃(p:Addr) (bs:List Bool),xs=[.ref p]∧cZ X.K H p (bs.map V.bl)∧Q (.bl (bs.all id)) H):=by
 intro pins s σ H xs us Q I r h
 obtain ⟨p,bs,rfl,hp,q⟩:=h
 obtain ⟨u,rfl,ru⟩:=vals1 r
 cases ru
 obtain ⟨its,rv,pl,_⟩:=I.list hp
 have hl:=pl.isList
 have e0:=Aq rv
 subst e0
 have hlt:p < s.heap.objs.size:=by obtain ⟨_,e,_⟩:=hl; exact Heap.lt_size e
 refine call_all_walk (wpAny_pyIter_list hl ?_)
 refine ⟨s.heap.objs.size,[s.heap.objs.size,p],[s.heap.objs.size],(bs.map Value.bool).toArray.size,_,_,fun i=>(bs[i]?).getD true,rfl,Walks.list (A:=X.A.in1) (I.ok.hd hc) _ p (Nat.ne_of_lt hlt) (bs.map Value.bool).toArray,
  ⟨⟨_,Heap.get?_push_size _ rfl,rfl,rfl⟩,hl.push _⟩,fun i v s' Q' E' hP hQ=>?_,fun h' tk hk=>?_⟩
 ·have hP':(bs.map Value.bool)[i]?=some v:=by simpa using hP
  rw [List.getElem?_map] at hP'
  cases e:bs[i]? with
  | none=>rw [e] at hP'; cases hP'
  | some b=>
   rw [e] at hP'
   cases hP'
   simp only [e,Option.getD_some] at hQ
   exact wpAny_truthy_bool hQ
 ·have e:((List.range (bs.map Value.bool).toArray.size).all fun i=>(bs[i]?).getD true)=bs.all id:=by
   have:(bs.map Value.bool).toArray.size=bs.length:=by simp
   rw [this,Bool.eq_iff_iff,List.all_eq_true,List.all_eq_true]
   constructor
   ·intro h b hb
    obtain ⟨i,hi,rfl⟩:=List.getElem_of_mem hb
    have:=h i (List.mem_range.mpr hi)
    simpa [List.getElem?_eq_getElem hi] using this
   ·intro h i hi
    have hi':=List.mem_range.mp hi
    simp only [List.getElem?_eq_getElem hi',Option.getD_some]
    exact h _ (List.getElem_mem hi')
  rw [e]
  refine ⟨.bl _,H,I.kept fun b x e=>hk b x (fun hm=>?_) (Heap.get?_push_of_some _ e),rfl,q⟩
  rw [List.mem_singleton.mp hm] at e
  exact Nat.lt_irrefl _ (Heap.lt_size e)
end
end L2
namespace L2
open PySem PySem.Spec PyProof.Rows
mutual
noncomputable def RD (K:PySem.W.Frag) (H:Hp):PyData→V→Prop
 | .none,v=>v=.non
 | .bool b,v=>v=.bl b
 | .int i,v=>v=.int i
 | .str x,v=>v=.str x
 | .tuple ds,v=>∃a vs,v=.ref a∧ig K H a vs∧xu K H ds vs
 | .list ds,v=>∃a vs,v=.ref a∧cZ K H a vs∧xu K H ds vs
 | .dict _,_=>False
noncomputable def xu (K:PySem.W.Frag) (H:Hp):List PyData→List V→Prop
 | [],vs=>vs=[]
 | d::ds,vs=>∃v r,vs=v::r∧RD K H d v∧xu K H ds r
end
theorem ig.same {K:PySem.W.Frag} {H H':Hp} {a:Addr} {xs:List V} (e:∀b ys,H b=some (.tup ys)→H' b=some (.tup ys)) (ef:∀b o u,H b=some (.Ad o u)→H' b=some (.Ad o u)) (h:ig K H a xs):ig K H' a xs:=by
 rcases h with (h | ⟨o,h⟩) | h
 ·exact .inl (.inl (e _ _ h))
 ·exact .inl (.inr ⟨o,ef _ _ _ h⟩)
 ·exact .inr h
mutual
theorem RD.same {K:PySem.W.Frag} {H H':Hp} (e:aQ H H'):∀{d:PyData} {v:V},RD K H d v→RD K H' d v
 | .none,_,h=>h
 | .bool _,_,h=>h
 | .int _,_,h=>h
 | .str _,_,h=>h
 | .tuple ds,v,h=>by
  obtain ⟨a,vs,e1,q,r⟩:=h
  exact ⟨a,vs,e1,q.same (fun b ys z=>e _ _ z) (fun b o u z=>e _ _ z),xu.same e r⟩
 | .list ds,v,h=>by
  obtain ⟨a,vs,e1,q,r⟩:=h
  exact ⟨a,vs,e1,e.seq q,xu.same e r⟩
theorem xu.same {K:PySem.W.Frag} {H H':Hp} (e:aQ H H'):∀{ds:List PyData} {vs:List V},xu K H ds vs→xu K H' ds vs
 | [],_,h=>h
 | d::ds,vs,h=>by
  obtain ⟨v,r,e1,q,t⟩:=h
  exact ⟨v,r,e1,RD.same e q,xu.same e t⟩
end
mutual
theorem RD.nodict {K:PySem.W.Frag} {H:Hp}:∀{d:PyData} {v:V},RD K H d v→d.hasDict=false
 | .none,_,h=>by simp [PyData.hasDict]
 | .bool _,_,h=>by simp [PyData.hasDict]
 | .int _,_,h=>by simp [PyData.hasDict]
 | .str _,_,h=>by simp [PyData.hasDict]
 | .tuple ds,v,h=>by
  obtain ⟨a,vs,e1,q,r⟩:=h
  simpa [PyData.hasDict] using xu.nodict r
 | .list ds,v,h=>by
  obtain ⟨a,vs,e1,q,r⟩:=h
  simpa [PyData.hasDict] using xu.nodict r
theorem xu.nodict {K:PySem.W.Frag} {H:Hp}:∀{ds:List PyData} {vs:List V},xu K H ds vs→PyData.hasDictAll ds=false
 | [],_,h=>by simp [PyData.hasDictAll]
 | d::ds,vs,h=>by
  obtain ⟨v,r,e1,q,t⟩:=h
  simp [PyData.hasDictAll,RD.nodict q,xu.nodict t]
end
section
variable {X:Cx} {pins:List (Addr×Obj)} {σ:St} {H:Hp} {s:Shared}
mutual
theorem RD.reads (I:Inv X pins σ H s):∀{d:PyData} {v:V} {u:Value},RD X.K H d v→RelV v u→∃as,Reads s.heap u d as
 | .none,_,_,h,r=>by
  cases (show _=V.non from h)
  cases r
  exact ⟨_,.none⟩
 | .bool b,_,_,h,r=>by
  cases (show _=V.bl b from h)
  cases r
  exact ⟨_,.bool b⟩
 | .int i,_,_,h,r=>by
  cases (show _=V.int i from h)
  obtain ⟨t,rfl⟩:=r
  exact ⟨_,.int i t⟩
 | .str x,_,_,h,r=>by
  cases (show _=V.str x from h)
  obtain ⟨t,rfl⟩:=r
  exact ⟨_,.str x t⟩
 | .tuple ds,v,u,h,r=>by
  obtain ⟨a,vs,e1,q,t⟩:=h
  subst e1
  cases r
  obtain ⟨its,rv,⟨o,e,c,n,d⟩,_⟩:=I.tuple q
  obtain ⟨as,R⟩:=xu.reads I t rv
  exact ⟨_,.tuple e c d (by simpa using R)⟩
 | .list ds,v,u,h,r=>by
  obtain ⟨a,vs,e1,q,t⟩:=h
  subst e1
  cases r
  obtain ⟨its,rv,⟨o,n,e,c,_,d⟩,_⟩:=I.list q
  obtain ⟨as,R⟩:=xu.reads I t rv
  exact ⟨_,.list e c d (by simpa using R)⟩
theorem xu.reads (I:Inv X pins σ H s):∀{ds:List PyData} {vs:List V} {us:List Value},xu X.K H ds vs→Vals vs us→∃as,ReadsAll s.heap us ds as
 | [],_,_,h,r=>by
  cases (show _=[] from h)
  cases r
  exact ⟨_,.nil⟩
 | d::ds,vs,us,h,r=>by
  obtain ⟨v,rr,e1,q,t⟩:=h
  subst e1
  cases r with
  | cons r1 r2=>
   obtain ⟨as,R⟩:=RD.reads I q r1
   obtain ⟨bs,R2⟩:=xu.reads I t r2
   exact ⟨_,.cons R R2⟩
end
end
section
variable {X:Cx}
end
end L2
namespace L2
open PySem PySem.Spec PyProof.Rows
noncomputable def Li (Ds:Scope) (N0 NT NF:List Str) (js:List Nat) (scope:Scope):Bool:=
 scope.kind==.function&&scope.names.all (fun y=>!(y.2==.local) || scope.names.lookup y.1==some .local)&&scope.names.all (fun y=>!(y.2==.cell))&&
  scope.names.all (fun y=>!(y.2==.free) || (Ds.names.lookup y.1==some .cell || Ds.names.lookup y.1==some .free))&&js.length==NF.length&&
  (js.zip NF).all (fun p=>N0[p.1]?==some p.2&&scope.names.lookup p.2==some .free)&&NT.all (fun x=>scope.names.lookup x==some .local)&&decide (NT++NF).Nodup
theorem uA.ok {X:Cx} {Ds:Scope} {N0 NT NF:List Str} {js:List Nat} {scope:Scope} (h:Li Ds N0 NT NF js scope=true) (ho:X.env.scope=Ds) (hN:X.N=N0):jT X NT NF js scope:=by
 unfold Li at h
 simp only [Bool.and_eq_true] at h
 obtain ⟨⟨⟨⟨⟨⟨⟨h1,h2⟩,h3⟩,h4⟩,h5⟩,h6⟩,h7⟩,h8⟩:=h
 refine ⟨eq_of_beq h1,fun y hy e=>?_,fun y hy e=>?_,fun y hy e=>?_,by simpa using h5,fun k j x ej ex=>?_,fun x hx=>?_,of_decide_eq_true h8⟩
 ·have:=List.all_eq_true.mp h2 y hy
  rw [e] at this
  simpa using this
 ·have:=List.all_eq_true.mp h3 y hy
  rw [e] at this
  simp at this
 ·have:=List.all_eq_true.mp h4 y hy
  rw [e] at this
  rw [ho]
  simpa using this
 ·have hm:(j,x)∈js.zip NF:=by
   have:(js.zip NF)[k]?=some (j,x):=by
    rw [List.getElem?_zip_eq_some]
    exact ⟨ej,ex⟩
   exact List.mem_of_getElem? this
  have:=List.all_eq_true.mp h6 _ hm
  simp only [Bool.and_eq_true] at this
  rw [hN]
  exact ⟨eq_of_beq this.1,eq_of_beq this.2⟩
 ·exact eq_of_beq (List.all_eq_true.mp h7 x hx)
structure jl (P:Program) (w:World) (K:PySem.W.Frag) (mg:Str→Option Value) (base:Heap) (x:Str) (k:Nat) (ps:List Str) (sp:Sp):Prop where
 ex:∃(f:Addr) (fd:FuncData),mg x=some (.ref f)∧PySem.W.keepIn K (.ref f)=true∧Binds K fd ps []∧dG P w K mg base qb k f fd ps sp
section
variable {X:Cx} {x:Str} {k:Nat} {ps:List Str} {sp:Sp} {p pos:Pos} {e:Expr} {es:List Expr} {t:TA}
theorem WL (F:jl X.prog X.w X.K X.mg X.base x k ps sp) (hr:gm k X.A) (hg:Gl X x) (ha:PA X (e::es) t) (hdb:(x==("__debug__":Str))=false:=by decide)
  (he:starEach (e::es) X.env=(false,eval e X.env)::starEach es X.env:=by rfl) (hpl:(backTo pos (starEach es X.env)).any (·.1)=false:=by rfl):
  PE X (.Call (.Name x p) (e::es) [] pos) (KN sp [] E0 t):=by
 obtain ⟨f,fd,h1,h2,h3,h4⟩:=F.ex
 exact Ph h4 hr hg h1 h2 h3 .nil WD ha hdb he hpl
theorem Ar:dZ X (.builtin "isinstance") (fun xs H Q=>∃x n t b,xs=[x,.ty n]∧mR X.K H x t∧PySem.W.kitOne X.K t (.type n)=some b∧Q (.bl b) H):=by
 intro pins s σ H xs us Q I r h
 obtain ⟨x,n,t,b,rfl,ty,e,q⟩:=h
 obtain ⟨u,u2,rfl,r1,r2⟩:=vals2 r
 cases r2
 exact IW I r1 ty e fun tk=>⟨.bl b,H,I.tok tk,rfl,q⟩
end
structure Fx (K:PySem.W.Frag) (T:oU) (J:It) (n:Nat) (vs:Nat→List V) (G:Hp→Prop):Prop where
 go:∀i H,i < n→G H→J.go i H
 Rw:∀i H x H',i < n→G H→J.Rw i H x H'→H'=H∧RK K T x H (vs i)
 stop:∀H,G H→J.stop n H
section
variable {K:PySem.W.Frag} {T:oU} {J:It} {n:Nat} {vs:Nat→List V} {G:Hp→Prop} {ts:TT} {te:TE} {fs:St} {H1:Hp} {D:Addr} {done:Hp→Prop}
end
end L2
namespace L2
open PySem PySem.Spec PyProof.Rows
theorem Qd {n m:Nat} (h:n≤m) (hm:m≤16777216:=by decide):n≤sizeLine:=by rw [sizeLine_eq]; omega
section
variable {K:PySem.W.Frag} {T:oU} {J:It} {n:Nat} {vs:Nat→List V} {G:Hp→Prop} {te:TE} {fs:St} {H1:Hp} {D:Addr} {done:Hp→Prop}
end
section
variable {X:Cx}
theorem RC.r {id:String} {r:V→List V→Hp→VK→Prop} (h:RC X id r):VF X id r:=h
end
noncomputable def Ext (p:Addr) (H H':Hp):Prop:=∀b o,H b=some o→b≠p→H' b=some o
theorem Ext.refl (p:Addr) (H:Hp):Ext p H H:=fun _ _ h _=>h
theorem Ext.trans {p:Addr} {H H1 H2:Hp} (a:Ext p H H1) (b:Ext p H1 H2):Ext p H H2:=fun c o h hc=>b c o (a c o h hc) hc
theorem aQ.ext {p:Addr} {H H':Hp} (s:aQ H H'):Ext p H H':=fun b o h _=>s b o h
theorem Ext.upd {p:Addr} {H:Hp} {o:HO}:Ext p H (upd H p o):=fun b u h hb=>by rw [aJ hb]; exact h
theorem aQ.upd {p:Addr} {H:Hp} {o:HO} (h:H p=none):aQ H (L2.upd H p o):=fun b u e=>by rw [aJ (bz e h)]; exact e
end L2
namespace L2
open PySem PySem.Spec PyProof.Rows
noncomputable def Uc (D:Addr) (tk tv:TE):TM:=fun σ H Q=>tk σ H fun y H1=>tv σ H1 fun z H2=>∃kvs k,H2 D=some (.dK kvs)∧y=kV k∧kvs.length < sizeLine∧Q (upd H2 D (.dK (putK kvs k z)))
theorem Ud {X:Cx} {D:Addr} {kx vx:Expr} {tk tv:TE} (hu:X.A.units + 1 < cLine) (hk:PE X kx tk) (hv:PE X vx tv):PM X (do
      let kv ←eval kx X.env
      let vv ←holding [kv] (eval vx X.env)
      standAt { kx.pos with endLine:=vx.pos.endLine,endCol:=vx.pos.endCol }
      holding [kv,vv] (dictSet D kv vv)) (Uc D tk tv):=by
 intro pins s σ H Q I h
 refine wpAny_bind (cI (hk pins s σ H _ I h) fun kv s1 aP=>?_)
 obtain ⟨y,H1,I1,r1,q1⟩:=aP
 refine wpAny_bind (wpAny_holding (cI (hv pins s1 σ H1 _ I1 q1) fun vv s2 aP=>?_))
 obtain ⟨z,H2,I2,r2,kvs,k,hD,ey,hl,q2⟩:=aP
 subst ey
 refine wpAny_bind (wpAny_standAt (wpAny_holding ?_))
 obtain ⟨z1,hd,vs,rel,dd⟩:=GC I2.hok hD
 have hz:vs.length≤sizeLine:=by rw [←rel.length]; exact z1
 have hl2:(putK kvs k z).length≤sizeLine:=by have:=jk kvs k z; omega
 refine wpAny_dictSet_pairs (hsz:=hz) (uo r1) dd fun h' Oz hs=>⟨_,?_,q2⟩
 have he:∃q,h'.get? D=some q:=let ⟨q,_,_,hq,_⟩:=Oz; ⟨q,hq⟩
 exact kJ I2 (by rw [hD]; exact True.intro) hs he (yO hl2 hd (rel.put k r2) Oz)
section
variable {X:Cx} {NT NF:List Str} {js:List Nat} {elt kx vx tg iter e:Expr} {ifs:List Expr} {T:oU} {wi:TI} {ts:Bk→TT} {te tk' tv:Bk→TE} {scope:Scope} {pos:Pos}
noncomputable def tDC (K:PySem.W.Frag) (wi:TI) (T:oU) (ts:Bk→TT) (tk' tv:Bk→TE) (js:List Nat):TE:=fun σ H Q=>wi σ H fun J H1=>∀D,H1 D=none→∀b,Ei K T (ts b) (Uc D (tk' b) (tv b)) (frees js σ) J (upd H1 D (.dK [])) (Q (.ref D))
theorem Ue {pins:List (Addr×Obj)} {σ:St} {s2:Shared} {H2:Hp} {cl:List (Str×Addr)} {it:Addr} {fp:List Addr} {tn:Nat→Heap→Prop} {J:It} {Q:Hp→Prop} {RR:Value→Addr→Result→Shared→Prop} {E:Value→Shared→Prop}
  (B:jT X NT NF js scope) (tk:qg tg NT T) (hc:X.calm=true) (hu:X.A.units + 1 < cLine)
  (hin:∀b,Dr (X.bk (NT++NF) scope b) ifs (ts b)∧PE (X.bk (NT++NF) scope b) kx (tk' b)∧PE (X.bk (NT++NF) scope b) vx (tv b))
  (q2:∀n c,cl.lookup n=some c→X.env.cells.lookup n=some c) (q3:∀y∈scope.names,y.2=.free→∃c,cl.lookup y.1=some c)
  (I2:Inv X pins σ H2 s2) (TT:Turn X.prog X.w X.K tg J fp it tn) (st2:tn 0 s2.heap) (f2:∀b∈fp,jg X pins H2 b)
  (q:∀b,Ei X.K T (ts b) (Uc s2.heap.objs.size (tk' b) (tv b)) (frees js σ) J (upd H2 s2.heap.objs.size (.dK [])) Q)
  (hR:∀C H' s' m,Inv X pins σ H' s'→jg X pins H' C→s'.heap.Ns C m→Q H'→RR (.ref s2.heap.objs.size) C (.ok .next) s'):
  wpAny (model X.prog X.w) X.A (newDict) (fun acc s₃=>wpAny (model X.prog X.w) X.A (newFunctionEnv scope X.env.globals cl [] X.env.qual none .none (some X.env)) (fun cenv s₄=>
   codeAny (model X.prog X.w) X.A (.compStart (.DictComp kx vx [⟨tg,iter,ifs,0⟩] scope pos) 0 (.ref it) acc { cenv with scope:=relabel scope X.env }) (RR acc cenv.locals) s₄) E s₃) E s2:=by
 refine wpAny_newObj_type ?_
 have hD:H2 s2.heap.objs.size=none:=I2.hok.fresh (Nat.le_refl _)
 have I3:Inv X pins σ (upd H2 s2.heap.objs.size (.dK [])) { s2 with heap:=s2.heap.push { cls:=.type "dict",dict:=none,data:=.dict #[] } }:=
  I2.laid (t':=s2.toks) (fun b o e=>Heap.get?_push_of_some _ e) (Nat.le_refl _) (ur s2.heap I2.big)
 have hsz:(s2.heap.push { cls:=.type "dict",dict:=none,data:=.dict #[] }).objs.size=s2.heap.objs.size + 1:=Heap.size_push ..
 refine wpAny_newFunctionEnv B.cell (by intro y hy; simp at hy) (fun h₁ hns₁ hsb₁=>?_) B.kind
 have OD:∀b∈fp,b < s2.heap.objs.size:=fun b hb=>by
  obtain ⟨o,e,_⟩:=TT.obj 0 _ st2 b hb
  exact Heap.lt_size e
 have f3:∀b∈fp,jg X pins (upd H2 s2.heap.objs.size (.dK [])) b:=fun b hb=>⟨by rw [aJ (Nat.ne_of_lt (OD b hb))]; exact (f2 b hb).1,(f2 b hb).2⟩
 have keep:∀b o,(s2.heap.push { cls:=.type "dict",dict:=none,data:=.dict #[] }).get? b=some o→h₁.get? b=some o:=fun b o e=>
  hsb₁.extBut b o (Nat.ne_of_lt (Heap.lt_size e)) (Heap.get?_push_of_some _ e)
 have RL:∀b∈fp,b < (s2.heap.push { cls:=.type "dict",dict:=none,data:=.dict #[] }).objs.size:=fun b hb=>by have:=OD b hb; rw [hsz]; exact Nat.lt_succ_of_lt this
 have I4:=I3.blk (s1:={ s2 with heap:=h₁,toks:=s2.toks + ([]:List (Str×Value)).length }) B q2 q3 f3 RL hns₁ keep rfl I2.bare
 have RM:tn 0 h₁:=TT.keep 0 _ _ st2 fun b _ o e=>keep b o (Heap.get?_push_of_some _ e)
 obtain ⟨i1,i2,i3⟩:=hin ⟨cl,(s2.heap.push { cls:=.type "dict",dict:=none,data:=.dict #[] }).objs.size,{ s2 with heap:=s2.heap.push { cls:=.type "dict",dict:=none,data:=.dict #[] } },upd H2 s2.heap.objs.size (.dK []),fp⟩
 have loop:codeAny (model X.prog X.w) X.A (.compLoop (.DictComp kx vx [⟨tg,iter,ifs,0⟩] scope pos) 0 (.ref it) (.ref s2.heap.objs.size) (compEnvC scope cl (s2.heap.push { cls:=.type "dict",dict:=none,data:=.dict #[] }).objs.size X.env))
   (RR (.ref s2.heap.objs.size) (s2.heap.push { cls:=.type "dict",dict:=none,data:=.dict #[] }).objs.size) { s2 with heap:=h₁,toks:=s2.toks + ([]:List (Str×Value)).length }:=by
  refine uy (X:=X.blk (NT++NF) scope cl (s2.heap.push { cls:=.type "dict",dict:=none,data:=.dict #[] }).objs.size { s2 with heap:=s2.heap.push { cls:=.type "dict",dict:=none,data:=.dict #[] } } (upd H2 s2.heap.objs.size (.dK [])) fp)
   (T:=T) (fs:=frees js σ) (done:=Q) rfl (Eh kx vx tg iter ifs scope pos _ _ _) rfl rfl rfl tk rfl B.nd hc (fun x hx=>lookup_relabel_local (B.tg x hx)) i1 (Ud hu i2 i3) TT (fun b hb=>?_) I4 RM (q _) fun H' s' σ' J' qd=>?_
  ·exact ⟨(f3 b hb).1,Nat.ne_of_lt (RL b hb),fun hb2=>by
    rcases List.mem_cons.mp (I3.qZ b hb2) with z | z
    ·exact (f3 b hb).2.1 z
    ·exact (f3 b hb).2.2.1 z,.inl hb,fun x c e=>(f3 b hb).2.2.2.2.1 x c (q2 x c e),fun p hp=>(nomatch (show p∈([]:List (Addr×Obj)) from hp))⟩
  ·obtain ⟨m,hn,_⟩:=J'.loc
   exact hR _ H' s' m (I3.K9 f3 J') (I3.yD (Nat.le_refl _) J'.free) hn qd
 exact codeAny_compStart_dict loop (TT.self _ 0 _ _ _ RM loop)
theorem Lj {i:Nat} {y:Str} {pos' spos:Pos} (B:jT X NT NF js scope) (tk:qg tg NT T) (hc:X.calm=true) (hu:X.A.units + 1 < cLine) (hi:PI X tg iter wi)
  (hin:∀b,Dr (X.bk (NT++NF) scope b) ifs (ts b)∧PE (X.bk (NT++NF) scope b) kx (tk' b)∧PE (X.bk (NT++NF) scope b) vx (tv b))
  (hsw:swapsWith (.DictComp kx vx [⟨tg,iter,ifs,0⟩] scope pos) (some (.Name y pos')) spos.line X.env=pure true)
  (hN:X.N.Nodup) (hI:X.N[i]?=some y) (hy:X.env.scope.names.lookup y=some .local)
  (hs:∀x,foldedSetIterable iter X.env x=pure x:=by intro _; rfl):PS X (.Assign [.Name y pos'] (.DictComp kx vx [⟨tg,iter,ifs,0⟩] scope pos) spos) (Ip (tDC X.K wi T ts tk' tv js) (rZ i)):=by
 intro pins s σ H D I h
 obtain ⟨cl,hclos,q2,q3⟩:=kO (env:=X.env) (scope:=scope) fun y hy e=>I.ok.has y.1 (B.free y hy e)
 rw [exec_Assign_Name_used _ _ _ _ hsw]
 refine wpAny_bind (wpAny_standAt (wpAny_bind ?_))
 show wpAny _ X.A (do let _ ←comprehension (.DictComp kx vx [⟨tg,iter,ifs,0⟩] scope pos) scope X.env _ (newDict) false (eval iter X.env) (some (assign (.Name y pos') X.env))) _ _ s
 refine wpAny_bind (wpAny_mono (wpAny_comprehension_free (use:=some (assign (.Name y pos') X.env)) (Q:=fun _ s'=>SP X pins D .next s') rfl hs hclos B.kind B.names
  (cI (hi pins s σ H _ I h) fun v s1 h1=>cI h1 fun itv s2 ⟨it,fp,tn,J,H2,e,I2,TT,st2,f2,q⟩=>?_)) (fun _ s' hq=>wpAny_pure (wpAny_pure hq)) fun _ _ e=>e)
 subst e
 refine Ue (hu:=hu) (Q:=fun H'=>D.nx (σ.set i (some (.ref s2.heap.objs.size))) H') (RR:=fun acc C=>compPost (model X.prog X.w) X.A X.xe (some (assign (.Name y pos') X.env)) (fun _ s'=>SP X pins D .next s') acc C) B tk hc (hin:=hin) q2 q3 I2 TT st2 f2 (q _ (I2.hok.fresh (Nat.le_refl _))) fun C H' s' m I' fC hn qd=>?_
 show wpAny _ X.A (assign (.Name y pos') X.env (.ref s2.heap.objs.size)) _ _ _
 refine wpAny_assign_Name (q9 I' hN hI (.inl hy) (v:=.ref s2.heap.objs.size) rfl (fun s3 I3 aP=>?_) (.inr hy))
 obtain ⟨a,sb,ha⟩:=aP
 have Zj:C≠a:=by
  rcases ha with z | z
  ·rw [z]; exact fC.2.1
  ·exact fun w=>fC.2.2.2.2.1 y a z w.symm
 refine ⟨m,hn.sameBut sb Zj,fun h' sb'=>⟨_,H',?_,qd⟩⟩
 exact I3.turned (t':=s3.toks) (fun b o hb e=>(sb'.2 b hb).trans e) fC.1 fC.2.1 fC.2.2.2.1 fC.2.2.2.2.1 fC.2.2.2.2.2
end
end L2
namespace L2
open PySem PySem.Spec PyProof.Rows
section
variable {X:Cx}
theorem Qe {K:PySem.W.Frag} {t:Value} {c d:Value} {p q:Bool} (e1:PySem.W.kitOne K t c=some p) (e2:PySem.W.kitOne K t d=some q):PySem.W.kitAny K t [c,d]=some (p || q):=by
 unfold PySem.W.kitAny
 rw [e1]
 cases p with
 | true=>rfl
 | false=>
  unfold PySem.W.kitAny
  rw [e2]
  cases q with
  | true=>rfl
  | false=>rfl
end
structure Fy (K:PySem.W.Frag) (T:oU) (J:It) (n:Nat) (vs:Nat→List V) (G:Hp→Prop):Prop where
 go:∀i H,i < n→G H→J.go i H
 Rw:∀i H x H',i < n→G H→J.Rw i H x H'→aQ H H'∧RK K T x H' (vs i)
 stop:∀H,G H→J.stop n H
section
variable {K:PySem.W.Frag} {T:oU} {J:It} {n:Nat} {vs:Nat→List V} {G:Hp→Prop} {ts:TT} {te:TE} {fs:St} {H1:Hp} {D:Addr} {done:Hp→Prop}
end
theorem Inv.qi {X:Cx} {pins:List (Addr×Obj)} {σ:St} {H H':Hp} {s:Shared} {h':Heap} {t':Nat} {ch:List Addr} (I:Inv X pins σ H s) (k:∀b o,b∉ch→s.heap.get? b=some o→h'.get? b=some o) (hf:∀b∈ch,jg X pins H b)
  (hs:aQ H H') (hfr:∀b o,s.heap.get? b=some o→H b=none→H' b=none) (hn:∀b u,H' b=some u→H b=some u∨bW X.prog X.w H' h' b u):Inv X pins σ H' { s with heap:=h',toks:=t' }:=by
 have VP:∀b u,H b=some u→b∉ch:=fun b u e z=>by rw [(hf b z).1] at e; cases e
 refine I.step (g':=s.gens) (d':=s.drawn) (ch:=ch) (fun b hb=>⟨(hf b hb).2.2.2.1,(hf b hb).2.1,(hf b hb).2.2.2.2.1,(hf b hb).2.2.2.2.2⟩) (fun b o _ _ hc e _=>k b o hc e) (fun b o _ _ hc e _=>⟨o.slots,k b o hc e⟩) (fun b o _ e n=>hfr b o e n)
  (fun b o hc e=>⟨o,k b o hc e⟩) (fun _ _ e=>hs _ _ e) (fun _ _ _ e=>hs _ _ e) (fun b ps e=>⟨#[],by rw [hs _ _ e]; simp⟩) (fun m hm=>?_) (fun b u e=>?_) I.bare
 ·obtain ⟨o,es,ep,ho,r⟩:=hm
  exact ⟨o,es,ep,k _ o (fun z=>(hf _ z).2.1 rfl) ho,r⟩
 ·rcases hn b u e with z | z
  ·refine (I.hok b u z).stay (fun c v hc q=>k c v ?_ q) (fun _ q=>hs _ _ q) fun _ _ q=>hs _ _ q
   rcases hc with y | y
   ·rw [y]; exact VP b u z
   ·exact VP c _ y
  ·exact z
noncomputable def Zn (K:PySem.W.Frag) (a b:Addr):It:=⟨fun i H=>∃xs ys,cZ K H a xs∧cZ K H b ys∧i < min xs.length ys.length,
 fun i H v H'=>∃p x y,H p=none∧v=.ref p∧H'=upd H p (.tup [x,y])∧∀xs ys,cZ K H a xs→cZ K H b ys→xs[i]?=some x∧ys[i]?=some y,
 fun i H=>∃xs ys,cZ K H a xs∧cZ K H b ys∧i=min xs.length ys.length⟩
theorem Lk {P:Program} {w:World} {K:PySem.W.Frag} {es:List Expr} {k:Nat} {ps:Pos} {a b z TI TO i1 i2:Addr} (D:ZipApart z TI TO i1 i2 a b):
  Turn P w K (.Tuple es k ps) (Zn K a b) [z,TI,TO,i1,i2] z (fun i h=>IsZip h z TI TO .none∧IsPair h TI (.ref i1) (.ref i2)∧(∃c d,IsPair h TO c d)∧h.IsListIter i1 a i∧h.IsListIter i2 b i) where
 mem:=by simp
 obj:=fun i h st c hc=>by
  obtain ⟨h1,h2,⟨_,_,h3⟩,⟨o4,e4,_,d4⟩,⟨o5,e5,_,d5⟩⟩:=st
  simp only [List.mem_cons,List.not_mem_nil,or_false] at hc
  rcases hc with rfl | rfl | rfl | rfl | rfl
  ·exact ⟨_,h1,fun v q=>by cases q⟩
  ·exact ⟨_,h2,fun v q=>by cases q⟩
  ·exact ⟨_,h3,fun v q=>by cases q⟩
  ·exact ⟨_,e4,fun v q=>by rw [d4] at q; cases q⟩
  ·exact ⟨_,e5,fun v q=>by rw [d5] at q; cases q⟩
 keep:=fun i h h' st kk=>by
  obtain ⟨h1,h2,⟨c,d,h3⟩,h4,h5⟩:=st
  exact ⟨kk z (by simp) _ h1,kk TI (by simp) _ h2,⟨c,d,kk TO (by simp) _ h3⟩,h4.at fun o e=>kk i1 (by simp) o e,h5.at fun o e=>kk i2 (by simp) o e⟩
 item:=by
  intro X hP hw hK hc i pins s σ H E I hf st hg
  subst hP hw hK
  obtain ⟨xs,ys,ha,hb,hi⟩:=hg
  obtain ⟨its,r1,p1,_⟩:=I.list ha
  obtain ⟨its2,r2,p2,_⟩:=I.list hb
  have l1:=r1.length
  have l2:=r2.length
  have W:=WalksT.zip2 (prog:=X.prog) (w:=X.w) (A:=X.A) (I.ok.hd hc) z TI TO i1 i2 a b D its.toArray its2.toArray
  obtain ⟨s1,s2,s3,s4,s5⟩:=st
  refine W.item i s _ E (by simp; omega) ⟨s1,s2,s3,s4,s5,p1.isList,p2.isList⟩ fun T vals h' tk hv hT ht hm kk=>?_
  obtain ⟨x,y,hx,hy,rfl⟩:=hv
  refine ⟨_,rfl,W.go es k ps i T _ _ E hm fun h2 st2 Ln=>?_⟩
  have gx:xs[i]?=some (xs.getD i .non):=by
   have:i < xs.length:=by omega
   simp [List.getD,this]
  have gy:ys[i]?=some (ys.getD i .non):=by
   have:i < ys.length:=by omega
   simp [List.getD,this]
  obtain ⟨u1,hu1,q1⟩:=r1.get gx
  obtain ⟨u2,hu2,q2⟩:=r2.get gy
  have ex:u1=x:=by
   have:its[i]?=some x:=by simpa using hx
   rw [hu1] at this
   exact Option.some.inj this
  have ey:u2=y:=by
   have:its2[i]?=some y:=by simpa using hy
   rw [hu2] at this
   exact Option.some.inj this
  subst ex ey
  have wf:∀c,c∈[z,TO,i1,i2]→jg X pins H c:=fun c hc=>hf c (by simp at hc ⊢; rcases hc with rfl | rfl | rfl | rfl <;> simp)
  have WM:H T=none:=I.hok.fresh hT
  have nT:T∉[z,TO,i1,i2]:=W.apart i T _ hm
  have kT:h2.get? T=h'.get? T:=by
   obtain ⟨o,e,_⟩:=id ht
   rw [Ln T o nT e]
   exact e.symm
  obtain ⟨oT,eT,cT,nT',dT⟩:=id ht
  refine ⟨.ref T,upd H T (.tup [xs.getD i .non,ys.getD i .non]),I.qi (fun c o hc e=>Ln c o hc (kk c o hc e)) wf (aQ.upd WM) (fun c o e n=>?_) (fun c u e=>?_),rfl,⟨T,_,_,WM,rfl,rfl,fun xs' ys' h1 h2=>?_⟩,?_,fun c hc=>?_⟩
  ·rw [aJ]
   ·exact n
   ·intro z
    subst z
    exact absurd (Heap.lt_size e) (Nat.not_lt.mpr hT)
  ·by_cases WN:c=T
   ·subst WN
    rw [aL] at e
    cases e
    refine .inr ⟨by show 2≤sizeLine; decide,[u1,u2],.cons q1 (.cons q2 .nil),oT,kT.trans eT,cT,nT',by simpa using dT⟩
   ·rw [aJ WN] at e
    exact .inl e
  ·rw [I.pR h1 ha,I.pR h2 hb]
   exact ⟨gx,gy⟩
  ·exact ⟨st2.1,st2.2.1,st2.2.2.1,st2.2.2.2.1,st2.2.2.2.2.1⟩
  ·rw [aJ]
   ·exact (hf c hc).1
   ·intro z
    subst z
    obtain ⟨o,e,_⟩:∃o,s.heap.get? c=some o∧True:=by
     simp only [List.mem_cons,List.not_mem_nil,or_false] at hc
     obtain ⟨c1,d1,s3⟩:=s3
     obtain ⟨o4,e4,_⟩:=s4
     obtain ⟨o5,e5,_⟩:=s5
     rcases hc with rfl | rfl | rfl | rfl | rfl
     ·exact ⟨_,s1,trivial⟩
     ·exact ⟨_,s2,trivial⟩
     ·exact ⟨_,s3,trivial⟩
     ·exact ⟨_,e4,trivial⟩
     ·exact ⟨_,e5,trivial⟩
    exact absurd (Heap.lt_size e) (Nat.not_lt.mpr hT)
 done:=by
  intro X hP hw hK hc i pins s σ H E I hf st hg
  subst hP hw hK
  obtain ⟨xs,ys,ha,hb,hi⟩:=hg
  obtain ⟨its,r1,p1,_⟩:=I.list ha
  obtain ⟨its2,r2,p2,_⟩:=I.list hb
  have l1:=r1.length
  have l2:=r2.length
  have W:=WalksT.zip2 (prog:=X.prog) (w:=X.w) (A:=X.A) (I.ok.hd hc) z TI TO i1 i2 a b D its.toArray its2.toArray
  obtain ⟨s1,s2,s3,s4,s5⟩:=st
  have e:i=min its.toArray.size its2.toArray.size:=by simp; omega
  subst e
  refine W.done s _ E ⟨s1,s2,s3,s4,s5,p1.isList,p2.isList⟩ fun h' tk kk=>⟨rfl,?_⟩
  have wf:∀c,c∈[z,TO,i1,i2]→jg X pins H c:=fun c hc=>hf c (by simp at hc ⊢; rcases hc with rfl | rfl | rfl | rfl <;> simp)
  exact I.qi kk wf (aQ.refl H) (fun _ _ _ n=>n) fun _ _ e=>.inl e
 self:=fun _ _ _ _ _ st h=>wpAny_pyIter_zip st.1 h
noncomputable def Zo (K:PySem.W.Frag) (t:TA):TI:=fun σ H R=>t σ H fun vs H1=>∃a b xs ys,vs=[.ref a,.ref b]∧cZ K H1 a xs∧cZ K H1 b ys∧R (Zn K a b) H1
theorem Ug {X:Cx} {es:List Expr} {k:Nat} {ps:Pos} {x y:Expr} {t:TA} {p pos:Pos} (hg:Gl X "zip") (hm:X.mg "zip"=none) (ha:PA X [x,y] t) (hs:starEach [x,y] X.env=[(false,eval x X.env),(false,eval y X.env)]:=by rfl) (hs2:starEach [y] X.env=[(false,eval y X.env)]:=by rfl):
  PI X (.Tuple es k ps) (.Call (.Name "zip" p) [x,y] [] pos) (Zo X.K t):=by
 intro pins s σ H R I h
 refine Call_ (kE I hg hm PyProof.Rows.boot_zip (PyProof.Rows.callWith_type1 (cI (ha pos pins s σ H _ I h) fun us s1 aP=>?_) (by rw [hs,hs2]) (by rw [hs2]; rfl)))
 obtain ⟨vs,H1,I1,r1,q1⟩:=aP
 obtain ⟨a,b,xs,ys,e,h1,h2,q⟩:=q1
 subst e
 cases r1 with
 | cons r rr=>
  cases rr with
  | cons r' rr=>
   cases rr
   cases r
   cases r'
   obtain ⟨its,v1,p1,_⟩:=I1.list h1
   obtain ⟨its2,v2,p2,_⟩:=I1.list h2
   have lt1:a < s1.heap.objs.size:=by obtain ⟨_,e,_⟩:=p1.isList; exact Heap.lt_size e
   have OD:b < s1.heap.objs.size:=by obtain ⟨_,e,_⟩:=p2.isList; exact Heap.lt_size e
   refine call_zip_2 p1.isList p2.isList fun h' g1 g2 g3 g4 g5 hsz kk=>?_
   refine wpAny_pyIter_zip g1 ?_
   have I2:Inv X pins σ H1 { s1 with heap:=h' }:=I1.kept (t':=s1.toks) kk
   refine ⟨s1.heap.objs.size + 4,[s1.heap.objs.size + 4,s1.heap.objs.size + 2,s1.heap.objs.size + 3,s1.heap.objs.size,s1.heap.objs.size + 1],_,_,H1,rfl,I2,Lk (zipApart_new lt1 OD),⟨g1,g2,⟨_,_,g3⟩,g4,g5⟩,fun c hc=>?_,q⟩
   refine I1.yD ?_ (I1.hok.fresh ?_)
   all_goals
    simp only [List.mem_cons,List.not_mem_nil,or_false] at hc
    rcases hc with rfl | rfl | rfl | rfl | rfl <;> omega
theorem Ej {X:Cx} {pins:List (Addr×Obj)} {σ:St} {H:Hp} {s:Shared} {A:Around} {E:Value→Shared→Prop} {Q:Value→Shared→Prop} {b:Bool} {c:Addr} {its:List Value} {x:V} {u t:Value} (I:Inv X pins σ H s) (rx:RelV x u) (ty:mR X.K H x t) (e:PySem.W.kitAny X.K t its=some b)
  (hc:s.heap.IsTuple c its.toArray) (h:∀tk,Q (.bool b) { s with toks:=tk }):wpAny (model X.prog X.w) A (call (.builtin "isinstance") [u,.ref c]) Q E s:=by
 obtain ⟨⟨oc,od,oda,osl⟩,g1,g2,g3,g4⟩:=hc
 simp only at g2 g4
 subst g2 g4
 cases ty with
 | non=>cases (show u=Value.none from rx); exact PySem.W.kia_tup PySem.W.kitx_none I.qW True.intro g1 e (fun z=>nomatch z) h
 | bl y=>cases (show u=Value.bool y from rx); exact PySem.W.kia_tup PySem.W.kitx_bool I.qW True.intro g1 e (fun z=>nomatch z) h
 | int i=>obtain ⟨t,q⟩:=(show ∃t,u=Value.int i t from rx); cases q; exact PySem.W.kia_tup PySem.W.kitx_int I.qW True.intro g1 e (fun z=>nomatch z) h
 | str y=>obtain ⟨t,q⟩:=(show ∃t,u=Value.str y t from rx); cases q; exact PySem.W.kia_tup PySem.W.kitx_str I.qW True.intro g1 e (fun z=>nomatch z) h
 | flt y=>obtain ⟨t,q⟩:=(show ∃t,u=Value.float y t from rx); cases q; exact PySem.W.kia_tup PySem.W.kitx_float I.qW True.intro g1 e (fun z=>nomatch z) h
 | @lst a xs ea=>
  cases (show u=Value.ref a from rx)
  obtain ⟨_,_,n,_,h1⟩:=(show bW X.prog X.w H s.heap a (.lst xs) from I.hok a _ ea)
  exact PySem.W.kia_tup PySem.W.kitx_list I.qW ⟨_,h1,rfl⟩ g1 e (fun z=>nomatch z) h
 | @Ad a ob xs ea=>
  cases (show u=Value.ref a from rx)
  obtain ⟨_,_,_,n,_,h1⟩:=(show bW X.prog X.w H s.heap a (.Ad ob (.lst xs)) from I.hok a _ ea)
  exact PySem.W.kia_tup PySem.W.kitx_list I.qW ⟨_,h1,rfl⟩ g1 e (fun z=>nomatch z) h
 | @tup a xs ea=>
  cases (show u=Value.ref a from rx)
  obtain ⟨_,_,_,p⟩:=(show bW X.prog X.w H s.heap a (.tup xs) from I.hok a _ ea)
  obtain ⟨o,h1,h2,_⟩:=p
  exact PySem.W.kia_tup PySem.W.kitx_tuple I.qW ⟨o,h1,h2⟩ g1 e (fun z=>nomatch z) h
 | @dK a kvs ea=>
  cases (show u=Value.ref a from rx)
  obtain ⟨_,_,vs,_,p⟩:=(show bW X.prog X.w H s.heap a (.dK kvs) from I.hok a _ ea)
  obtain ⟨o,es,ep,h1,h2,_⟩:=p
  exact PySem.W.kia_tup PySem.W.kitx_dict I.qW ⟨o,h1,h2.1⟩ g1 e (fun z=>nomatch z) h
 | @dT a kvs ea=>
  cases (show u=Value.ref a from rx)
  obtain ⟨_,_,xs,_,o,es,ep,h1,h2,_⟩:=(show bW X.prog X.w H s.heap a (.dT kvs) from I.hok a _ ea)
  exact PySem.W.kia_tup PySem.W.kitx_dict I.qW ⟨o,h1,h2.1⟩ g1 e (fun z=>nomatch z) h
 | @ins a C dx fs ea cl ha hn htk hm=>
  cases (show u=Value.ref a from rx)
  obtain ⟨mA,O,_⟩:=Gv I.hok ea
  obtain ⟨od,J,_⟩:=O.look
  exact PySem.W.kia_tup (PySem.W.kitx_own (cl.get _) cl.hd ha hn htk hm) I.qW J g1 e (fun z=>nomatch z) h
theorem yQ {X:Cx}:dZ X (.builtin "isinstance") (fun xs H Q=>∃x c m n t p q,xs=[x,.ref c]∧H c=some (.tup [.ty m,.ty n])∧mR X.K H x t∧PySem.W.kitOne X.K t (.type m)=some p∧PySem.W.kitOne X.K t (.type n)=some q∧Q (.bl (p || q)) H):=by
 intro pins s σ H xs us Q I r h
 obtain ⟨x,c,m,n,t,p,q,rfl,hc,ty,e1,e2,k⟩:=h
 obtain ⟨u,u2,rfl,r1,r2⟩:=vals2 r
 cases r2
 obtain ⟨_,its,rv,ob,g1,g2,g3⟩:=(show bW X.prog X.w H s.heap c (.tup [.ty m,.ty n]) from I.hok c _ hc)
 cases rv with
 | cons a1 rv=>
  cases rv with
  | cons a2 rv=>
   cases rv
   cases a1
   cases a2
   exact Ej I r1 ty (Qe e1 e2) ⟨ob,g1,g2,g3⟩ fun tk=>⟨.bl (p || q),H,I.tok tk,rfl,k⟩
end L2
namespace L2
open PySem PySem.Spec PyProof.Rows PySem.W
section
variable {N:Nat} {lt:Nat→Nat→Bool} {α β:Type}
noncomputable def bU (N:Nat) (lt:Nat→Nat→Bool):KasT α→(α→Prop)→Prop
 | .ret a,R=>R a
 | .ask i j k,R=>i < N∧j < N∧bU N lt (k (lt i j)) R
theorem bU.mono {R S:α→Prop}:∀{t:KasT α},bU N lt t R→(∀a,R a→S a)→bU N lt t S
 | .ret a,h,f=>f a h
 | .ask i j k,h,f=>⟨h.1,h.2.1,bU.mono h.2.2 f⟩
theorem bU.bind {f:α→KasT β} {R:β→Prop}:∀{t:KasT α},bU N lt t (fun a=>bU N lt (f a) R)→bU N lt (t.bind f) R
 | .ret a,h=>h
 | .ask i j k,h=>⟨h.1,h.2.1,bU.bind h.2.2⟩
theorem bU.wp {cmp:Nat→Nat→(Bool→Shared→Prop)→Shared→Prop} {R:α→Prop} {Q:α→Shared→Prop} {s:Shared} (ask:∀i j,i < N→j < N→∀C:Bool→Shared→Prop,C (lt i j) s→cmp i j C s) (q:∀a,R a→Q a s):∀{t:KasT α},bU N lt t R→t.kasWp cmp Q s
 | .ret a,h=>q a h
 | .ask i j k,h=>ask i j h.1 h.2.1 _ (bU.wp ask q h.2.2)
noncomputable def KP (N:Nat) (p:Array Nat):Prop:=p.toList.Perm (List.range N)
theorem KP.ix {p:Array Nat} (h:KP N p) (h0:0 < N) (i:Nat):p.getD i 0 < N:=by
 by_cases hi:i < p.size
 ·have:p.getD i 0∈p.toList:=by simp [Array.getD,hi]
  exact List.mem_range.mp (h.mem_iff.mp this)
 ·simpa [Array.getD,hi] using h0
theorem KP.rev {p:Array Nat} (h:KP N p) (i j:Nat):KP N (kas_rev p i j):=((mirror_perm p i j _).toList).trans h
theorem KP.bub {p:Array Nat} (h:KP N p) (i j:Nat):KP N (bubble p i j):=((bubble_perm p i j).toList).trans h
theorem Ek {p:Array Nat} (h:KP N p) (h0:0 < N):∀f n,bU N lt (kas_asc p f n) fun _=>True
 | 0,n=>trivial
 | f + 1,n=>by
  refine ⟨h.ix h0 _,h.ix h0 _,?_⟩
  dsimp only
  split
  ·exact trivial
  ·exact Ek h h0 f (n + 1)
theorem tM (h0:0 < N):∀f (p:Array Nat) n q,KP N p→bU N lt (kas_desc f p n q) fun r=>KP N r.1
 | 0,p,n,q,h=>h
 | f + 1,p,n,q,h=>by
  refine ⟨h.ix h0 _,h.ix h0 _,?_⟩
  dsimp only
  split
  ·split
   ·exact tM h0 f _ _ _ (h.rev _ _)
   ·exact tM h0 f _ _ _ h
  ·refine ⟨h.ix h0 _,h.ix h0 _,?_⟩
   dsimp only
   split
   ·exact h
   ·exact tM h0 f _ _ _ h
theorem Av (h0:0 < N) {p:Array Nat} (h:KP N p) (n nrem:Nat):bU N lt (kas_tail3 n nrem p) fun r=>KP N r.2:=
 bU.bind (bU.mono (Ek (h.rev 0 n) h0 _ _) fun _ _=>h.rev 0 n)
theorem sy (h0:0 < N) {p:Array Nat} (h:KP N p) (n nrem:Nat):bU N lt (kas_descPart n nrem p) fun r=>KP N r.2:=by
 refine bU.bind (bU.mono (tM h0 _ p _ _ h) fun r hr=>?_)
 split
 ·exact Av h0 (KP.rev hr _ _) _ _
 ·exact Av h0 hr _ _
theorem Lp (h0:0 < N) {p:Array Nat} (h:KP N p) (nrem:Nat):bU N lt (kas_count nrem p) fun r=>KP N r.2:=by
 refine bU.bind (bU.mono (Ek h h0 _ _) fun n _=>?_)
 split
 ·exact h
 ·split
  ·refine ⟨h.ix h0 _,h.ix h0 _,?_⟩
   dsimp only
   split
   ·exact h
   ·exact sy h0 (h.rev _ _) _ _
  ·exact sy h0 h _ _
theorem uB (h0:0 < N) {p:Array Nat} (h:KP N p) (k:Nat):∀f l r,bU N lt (kas_place p k f l r) fun _=>True
 | 0,l,r=>trivial
 | f + 1,l,r=>by
  unfold kas_place
  split
  ·exact trivial
  ·refine ⟨h.ix h0 _,h.ix h0 _,?_⟩
   dsimp only
   split
   ·exact uB h0 h k f _ _
   ·exact uB h0 h k f _ _
theorem Lq (h0:0 < N):∀f (p:Array Nat) k,KP N p→bU N lt (kas_bin f p k) (KP N)
 | 0,p,k,h=>h
 | f + 1,p,k,h=>bU.bind (bU.mono (uB h0 h k _ _ _) fun l _=>Lq h0 f _ _ (h.bub _ _))
theorem GJ (h0:0 < N):bU N lt (kas_sort N) (KP N):=by
 refine bU.bind (bU.mono (Lp h0 (p:=List.toArray (List.range N)) (List.Perm.refl _) N) fun r hr=>?_)
 split
 ·exact Lq h0 _ _ _ hr
 ·exact hr
end
noncomputable def kLt:Key→Key→Bool
 | .inl i,.inl j=>decide (i < j)
 | .inr x,.inr y=>decide (x.cps.toList < y.cps.toList)
 | _,_=>false
noncomputable def gn:List Key→List Key→Bool
 | a::r,b::t=>if a=b then gn r t else kLt a b
 | _,_=>false
noncomputable def eU:Key→Bool
 | .inl _=>true
 | .inr _=>false
section
variable {prog:Program} {w:World} {A:Around} {E:Value→Shared→Prop} {s:Shared} {Q:Bool→Shared→Prop}
theorem Lr {a b:Key} {u v:Value} {f:Bool} (ra:RelV (kV a) u) (rb:RelV (kV b) v) (ht:eU a=eU b) (h:Q (kLt a b) s):wpAny (model prog w) A (oneLt' f u v) Q E s:=by
 cases a with
 | inl i=>
  cases b with
  | inr y=>cases ht
  | inl j=>
   obtain ⟨t,rfl⟩:=ra
   obtain ⟨t',rfl⟩:=rb
   cases f with
   | true=>exact oneLt_int h
   | false=>exact kat_one _ _ (lt_int h)
 | inr x=>
  cases b with
  | inl y=>cases ht
  | inr y=>
   obtain ⟨t,rfl⟩:=ra
   obtain ⟨t',rfl⟩:=rb
   cases f with
   | true=>exact oneLt_str h
   | false=>exact kat_one _ _ (lt_str h)
theorem GK {a b:Key} (ht:eU a=eU b):KZ (kV a) (kV b)=decide (a=b):=by
 cases a with
 | inl i=>
  cases b with
  | inr y=>cases ht
  | inl j=>show (i==j)=_; rw [Bool.eq_iff_iff]; simp
 | inr x=>
  cases b with
  | inl y=>cases ht
  | inr y=>show (x==y)=_; rw [Bool.eq_iff_iff]; simp
theorem qj (a:Key):jQ (kV a)=true:=by cases a <;> rfl
theorem Aw:∀{ks js:List Key} {us vs:List Value} {i:Nat},Vals (ks.map kV) us→Vals (js.map kV) vs→ks.map eU=js.map eU→Q (gn ks js) s→KatLex prog w A true false Q (us.zip vs) i s
 | [],[],_,_,_,ra,rb,_,h=>by
  cases ra
  cases rb
  exact kat_nil h
 | [],_::_,_,_,_,_,_,e,_=>by cases e
 | _::_,[],_,_,_,_,_,e,_=>by cases e
 | a::ks,b::js,us,vs,i,ra,rb,e,h=>by
  cases ra with
  | cons r1 ra=>
   cases rb with
   | cons r2 rb=>
    have e1:eU a=eU b:=(List.cons.inj e).1
    have e2:=(List.cons.inj e).2
    refine kat_cons (Ec r1 r2 (qj a) (qj b) prog w _ _ ?_)
    rw [GK e1]
    unfold gn at h
    by_cases hab:a=b
    ·rw [if_pos hab] at h
     rw [decide_eq_true hab]
     exact kat_yes (Aw ra rb e2 h)
    ·rw [if_neg hab] at h
     rw [decide_eq_false hab]
     exact kat_no (Lr r1 r2 e1 h)
end
section
variable {prog:Program} {w:World} {A:Around} {E:Value→Shared→Prop} {s:Shared} {vs:List Value} {κ:SortKind} {lt:Nat→Nat→Bool} {Rl:List Nat→Prop}
noncomputable def Kp (a:Addr) (h h':Heap):Prop:=∀b o,b≠a→h.get? b=some o→h'.get? b=some o
theorem El {a:Addr} {n:Nat} {P:PySem.Fin→Shared→Prop} (ho:s.heap.get? a=some (seqObj "list" vs.toArray n)) (h64:vs.length < 64) (hg:2≤vs.length→bU vs.length lt (kas_sort vs.length) fun p=>KP vs.length p∧Rl p.toList) (hsm:vs.length < 2→Rl (List.range vs.length))
  (hk:2≤vs.length→∀s':Shared,Kp a s.heap s'.heap→∀Q:SortKind→Shared→Prop,Q κ s'→wpAny (model prog w) A (keyKind' vs.toArray) Q (fun _ _=>False) s')
  (hl:2≤vs.length→∀s':Shared,Kp a s.heap s'.heap→∀i j,i < vs.length→j < vs.length→∀C:Bool→Shared→Prop,C (lt i j) s'→kas_ask prog w A κ vs i j C s')
  (h:∀(p:List Nat) (h':Heap) (c:Nat),p.Perm (List.range vs.length)→Rl p→Kp a s.heap h'→h'.get? a=some (seqObj "list" (p.map fun i=>vs.getD i Value.none).toArray c)→P (.done (.ret .none)) { s with heap:=h' }):
  wpAny (model prog w) A (Builtin.«list.sort» ⟨[.ref a],[]⟩) P E s:=by
 have lta:a < s.heap.objs.size:=Heap.lt_size ho
 obtain ⟨e1,ho1⟩:∃e1,(s.heap.update a (Obj.mapSeq fun _=>(#[]:Array Value))).get? a=some (seqObj "list" #[] e1):=⟨_,get?_update_seq ho fun _=>#[]⟩
 have sz:vs.length≤sizeLine:=by rw [sizeLine_eq]; omega
 have kp:Kp a s.heap (((s.heap.update a (Obj.mapSeq fun _=>(#[]:Array Value))).push (seqObj "tuple" vs.toArray 0)).push (seqObj "list" #[] 0)):=fun b o hb e=>
  Heap.get?_push_of_some _ (Heap.get?_push_of_some _ (((Heap.SameBut.update s.heap a _).2 b hb).trans e))
 have WQ:(((s.heap.update a (Obj.mapSeq fun _=>(#[]:Array Value))).push (seqObj "tuple" vs.toArray 0)).push (seqObj "list" #[] 0)).get? a=some (seqObj "list" #[] e1):=Heap.get?_push_of_some _ (Heap.get?_push_of_some _ ho1)
 rw [list_sort_plain]
 refine wpAny_bind (listItems_at ho rfl (wpAny_bind (listUpdate_at ho rfl (wpAny_bind (seqEpoch_at ho1 rfl (wpAny_bind (wpAny_newTuple (wpAny_bind (wpAny_newList (wpAny_holding ?_) (Nat.zero_le _))) (by show vs.length≤_; exact sz))))) (by rw [List.size_toArray]; exact sz) (Nat.zero_le _))))
 show wpAny (model prog w) A _ P E { s with heap:=((s.heap.update a (Obj.mapSeq fun _=>(#[]:Array Value))).push (seqObj "tuple" vs.toArray 0)).push (seqObj "list" #[] 0) }
 dsimp only
 have fin:∀(p:List Nat),p.Perm (List.range vs.length)→Rl p→∀out:Array Value,out=(p.map fun i=>vs.getD i Value.none).toArray→
   P (.done (.ret .none)) { s with heap:=(((s.heap.update a (Obj.mapSeq fun _=>(#[]:Array Value))).push (seqObj "tuple" vs.toArray 0)).push (seqObj "list" #[] 0)).update a (Obj.mapSeq fun _=>out) }:=fun p hp hrl out eo=>by
  subst eo
  refine h p _ _ hp hrl (fun b o hb e=>((Heap.SameBut.update _ a _).2 b hb).trans (kp b o hb e)) (get?_update_seq WQ _)
 by_cases h2:vs.toArray.size < 2
 ·rw [if_pos h2,if_pos h2]
  refine wpAny_bind (wpAny_pure ?_)
  rw [StateT.run_pure]
  refine wpAny_bind (wpAny_pure ?_)
  dsimp only
  have hz:(pairsOf vs).size≤sizeLine:=by rw [pairsOf_size]; exact sz
  refine wpAny_bind (seqEpoch_at WQ rfl (wpAny_bind (listUpdate_at WQ rfl ?_ (hsz2:=by rw [Array.size_map]; show (pairsOf vs).size≤_; omega))))
  simp only [bne_self_eq_false,Bool.false_eq_true,if_false]
  refine wpAny_pure (fin (List.range vs.length) (List.Perm.refl _) (hsm (by simpa using h2)) _ ?_)
  apply Array.toList_inj.mp
  show ((vs.toArray.zip vs.toArray).map (·.2)).toList=_
  rw [Array.toList_map,Array.toList_zip,List.map_snd_zip (Nat.le_refl _)]
  show vs=_
  refine List.ext_getElem (by simp) fun i h1 h3=>?_
  simp [List.getD,h1]
 ·have h2':2≤vs.length:=by simpa using h2
  rw [if_neg h2,if_neg h2]
  refine wpAny_bind (wpAny_mono (hk h2' _ kp (fun k s'=>k=κ∧s'={ s with heap:=((s.heap.update a (Obj.mapSeq fun _=>(#[]:Array Value))).push (seqObj "tuple" vs.toArray 0)).push (seqObj "list" #[] 0) }) ⟨rfl,rfl⟩) (fun k s0 hk0=>?_) fun _ _ x=>x.elim)
  obtain ⟨rfl,rfl⟩:=hk0
  refine wpAny_bind (wpAny_mono (kat_run (ks:=vs) (vs:=vs) (Q:=fun st' s'=>∃p:Array Nat,(KP vs.length p∧Rl p.toList)∧arrOf st'=p.map (kas_item (vs.toArray.zip vs.toArray))∧failedOf st'=none∧s'={ s with heap:=((s.heap.update a (Obj.mapSeq fun _=>(#[]:Array Value))).push (seqObj "tuple" vs.toArray 0)).push (seqObj "list" #[] 0) })
   rfl h2' h64 (G:=fun p s'=>(KP vs.length p∧Rl p.toList)∧s'={ s with heap:=((s.heap.update a (Obj.mapSeq fun _=>(#[]:Array Value))).push (seqObj "tuple" vs.toArray 0)).push (seqObj "list" #[] 0) }) (fun p st' s' a1 a2 a3 a4=>⟨p,a4.1,a2,a3,a4.2⟩) (bU.wp (lt:=lt) (hl h2' _ kp) (fun p hp=>⟨hp,rfl⟩) (hg h2'))) ?_ fun _ _ e=>e)
  rintro ⟨⟨⟩,st'⟩ s' ⟨p,⟨hp,hrl⟩,har,hf,rfl⟩
  dsimp only
  have hout:=kat_snds (ks:=vs) (vs:=vs) rfl har
  have hps:p.toList.length=vs.length:=by rw [hp.length_eq,List.length_range]
  rw [hout]
  refine wpAny_bind (seqEpoch_at WQ rfl (wpAny_bind (listUpdate_at WQ rfl ?_ (Nat.zero_le _) (by rw [List.size_toArray,List.length_map,hps]; omega))))
  rw [hf]
  simp only [bne_self_eq_false,Bool.false_eq_true,if_false]
  exact wpAny_pure (fin p.toList hp hrl _ rfl)
end
end L2
namespace L2
open PySem PySem.Spec PyProof.Rows PySem.W
noncomputable def WR (h:Heap) (d:Addr) (es:Array DictEntry) (ep:Nat):Prop:=∃o,h.get? d=some o∧o.ExactDict∧o.data=.dict es ep
section
variable {prog:Program} {w:World} {A:Around} {E:Value→Shared→Prop} {s:Shared} {d it:Addr} {es:Array DictEntry} {ep i:Nat}
theorem WR.ty (h:WR s.heap d es ep):s.TypeIs (.ref d) "dict":=let ⟨o,ho,hc,_⟩:=h; ⟨o,ho,hc.1⟩
end
end L2
namespace L2
open PySem PySem.Spec PyProof.Rows PySem.W
theorem xx:∀{us:List Value} {ns:List Str},StrsAre us ns→Vals (ns.map V.str) us
 | _,_,.nil=>.nil
 | _,_,.cons _ t r=>.cons ⟨t,rfl⟩ (xx r)
section
variable {X:Cx}
theorem gm.aH {k:Nat} {A:Around} (r:gm k A):A.units + 1 < cLine:=by have:=r.un; omega
noncomputable abbrev Row:=Addr×List Key
noncomputable def TupAt (h:Heap) (r:Row):Prop:=∃its,Vals (r.2.map kV) its∧IsTup h r.1 its.toArray
theorem TupAt.keep {h h':Heap} {r:Row} (t:TupAt h r) (k:∀b o,h.get? b=some o→h'.get? b=some o):TupAt h' r:=by
 obtain ⟨its,v,o,e,c⟩:=t
 exact ⟨its,v,o,k _ _ e,c⟩
theorem GP {h:Heap} {b:Bool} {sh:List Bool}:∀{rows:List Row},(∀r∈rows,TupAt h r∧r.2.map eU=b::sh)→∃fs,KatTups h (rows.map fun r=>Value.ref r.1) fs∧fs.length=rows.length∧∀f∈fs,∃k,RelV (kV k) f∧eU k=b
 | [],_=>⟨[],KatTups.nil,rfl,by simp⟩
 | r::rows,ha=>by
  obtain ⟨fs,t,l,g⟩:=GP (rows:=rows) fun q hq=>ha q (List.mem_cons_of_mem _ hq)
  obtain ⟨⟨its,v,o,e,c,n,d⟩,s⟩:=ha r List.mem_cons_self
  obtain ⟨a,ks⟩:=r
  cases ks with
  | nil=>cases s
  | cons k ks=>
   cases v with
   | @cons _ u _ us v1 v2=>
    refine ⟨u::fs,KatTups.cons e c d (by simp) t,by simp [l],fun f hf=>?_⟩
    rcases List.mem_cons.mp hf with rfl | hf
    ·exact ⟨k,v1,(List.cons.inj s).1⟩
    ·exact g f hf
theorem Jm {M:Model} {h:Heap} {k:Key} {f:Value} {b:Bool} (r:RelV (kV k) f) (e:eU k=b):Looks M h (typeOf f) (if b=true then .type "int" else .type "str"):=by
 subst e
 cases k with
 | inl i=>obtain ⟨t,rfl⟩:=r; exact Looks.of_pure rfl
 | inr i=>obtain ⟨t,rfl⟩:=r; exact Looks.of_pure rfl
theorem uC (rows:List Row) {i:Nat} (hi:i < rows.length):(rows.map fun r=>Value.ref r.1).getD i Value.none=.ref rows[i].1:=by simp [List.getD,hi]
noncomputable def rowAt (rows:List Row) (i:Nat):List Key:=((rows[i]?).map (·.2)).getD []
theorem Jo {prog:Program} {w:World} {A:Around} {s':Shared} {rows:List Row} {b:Bool} {sh:List Bool} (ha:∀r∈rows,TupAt s'.heap r∧r.2.map eU=b::sh) (h0:0 < rows.length) (Q:SortKind→Shared→Prop) (q:Q (tuples' true) s'):
  wpAny (model prog w) A (keyKind' (rows.map fun r=>Value.ref r.1).toArray) Q (fun _ _=>False) s':=by
 obtain ⟨fs,t,l,g⟩:=GP ha
 refine kat_kind (T:=if b=true then .type "int" else .type "str") t (by omega) (fun v hv=>?_) (by cases b <;> rfl) (by cases b <;> exact q)
 obtain ⟨k,r,e⟩:=g v hv
 exact Jm r e
theorem Qf {prog:Program} {w:World} {A:Around} {s':Shared} {rows:List Row} {sh:List Bool} (ha:∀r∈rows,TupAt s'.heap r∧r.2.map eU=sh) {i j:Nat} (hi:i < rows.length) (hj:j < rows.length) (C:Bool→Shared→Prop) (q:C (gn (rowAt rows i) (rowAt rows j)) s'):
  kas_ask prog w A (tuples' true) (rows.map fun r=>Value.ref r.1) i j C s':=by
 obtain ⟨⟨its,v,o,e,c,n,d⟩,s1⟩:=ha rows[i] (List.getElem_mem hi)
 obtain ⟨⟨its2,v2,o2,e2,c2,n2,d2⟩,s2⟩:=ha rows[j] (List.getElem_mem hj)
 unfold kas_ask
 rw [uC rows hi,uC rows hj]
 have l1:=v.length
 have l2:=v2.length
 have l3:rows[i].2.length=rows[j].2.length:=by
  have:=congrArg List.length (s1.trans s2.symm)
  simpa using this
 refine kat_lt e d e2 d2 ?_
 have ez:decide (its.toArray.size < its2.toArray.size)=false:=by
  rw [decide_eq_false]
  simp only [List.size_toArray]
  rw [List.length_map] at l1 l2
  omega
 rw [ez]
 have q':C (gn rows[i].2 rows[j].2) s':=by
  unfold rowAt at q
  rw [List.getElem?_eq_getElem hi,List.getElem?_eq_getElem hj] at q
  exact q
 exact Aw (by simpa using v) (by simpa using v2) (s1.trans s2.symm) q'
theorem Jp {rows:List Row} {p:List Nat} (h:p.Perm (List.range rows.length)):(p.map fun i=>rows.getD i (0,[])).Perm rows:=by
 have e:(List.range rows.length).map (fun i=>rows.getD i (0,[]))=rows:=List.ext_getElem (by simp) fun i h1 h2=>by simp [List.getD,h2]
 exact (h.map _).trans (by rw [e])
theorem Jq {rows:List Row} {p:List Nat} (h:p.Perm (List.range rows.length)):(p.map fun i=>(rows.map fun r=>Value.ref r.1).getD i Value.none)=(p.map fun i=>rows.getD i (0,[])).map fun r=>Value.ref r.1:=by
 rw [List.map_map]
 refine List.map_congr_left fun i hi=>?_
 have hlt:=List.mem_range.mp (h.mem_iff.mp hi)
 rw [uC rows hlt]
 simp [List.getD,hlt]
theorem xF:∀(rows:List Row),Vals (rows.map fun r=>V.ref r.1) (rows.map fun r=>Value.ref r.1)
 | []=>.nil
 | r::rows=>.cons rfl (xF rows)
end
end L2
namespace L2
open PySem PySem.Spec PyProof.Rows PySem.W
section
variable {K:PySem.W.Frag} {T:oU} {J:It} {n:Nat} {vs:Nat→List V} {G:Hp→Prop} {ts:TT} {em:TM} {fs:St} {H0 H1:Hp} {D:Addr} {done:Hp→Prop}
end
end L2
namespace L2
open PySem PySem.Spec PyProof.Rows PySem.W
theorem Ls (A:Around) (s:Shared) {a b:Key} {u v:Value} (ra:RelV (kV a) u) (rb:RelV (kV b) v) (ht:eU a=eU b):SeqAt.EqAt A s u v (decide (a=b)):=by
 rw [←GK ht]
 exact Ec ra rb (qj a) (qj b)
theorem Ax (A:Around) (s:Shared) {a b:Key} {u v:Value} (ra:RelV (kV a) u) (rb:RelV (kV b) v) (ht:eU a=eU b) (prog:Program) (w:World) (E:Value→Shared→Prop) (Q:Value→Shared→Prop) (h:Q (.bool (kLt a b)) s):
  wpAny (model prog w) A (richCompare .Lt u v) Q E s:=by
 cases a with
 | inl i=>
  cases b with
  | inr y=>cases ht
  | inl j=>
   obtain ⟨t,rfl⟩:=ra
   obtain ⟨t',rfl⟩:=rb
   exact (lt_int h:wpAny (model prog w) A (compareOp .Lt _ _) Q E s)
 | inr x=>
  cases b with
  | inl y=>cases ht
  | inr y=>
   obtain ⟨t,rfl⟩:=ra
   obtain ⟨t',rfl⟩:=rb
   exact (lt_str h:wpAny (model prog w) A (compareOp .Lt _ _) Q E s)
section
open PySem.SeqAt
open PySem.AutoSeq1 (wpAny_loadPart')
open PySem.MeetsSeq PySem.MeetsSeq2 PySem.MeetsSeq3
theorem wj (l b:Addr) (items items2:Array Value) (n n2:Nat) (dd dd2:Option Addr) (sl sl2:Array (Option Value)) (ns ms:List Key) (hi:Vals (ns.map kV) items.toList) (hj:Vals (ms.map kV) items2.toList) (hty:ns.map eU=ms.map eU):
  Meets (Builtin.«tuple.__lt__» ⟨[.ref l,.ref b],[]⟩)
   (fun _ R s=>s.heap.get? l=some { cls:=.type "tuple",dict:=dd,data:=.seq items n,slots:=sl }∧s.heap.get? b=some { cls:=.type "tuple",dict:=dd2,data:=.seq items2 n2,slots:=sl2 }∧R (.ok (.ret (.bool (gn ns ms)))) s):=
 .of_wp fun prog w A R s h=>by
  obtain ⟨hp,g,d,tk,os⟩:=s; obtain ⟨hl,hb,h⟩:=h
  have f2:=AutoSeq1.sub_tuple_tuple
  have z0:ns.length=ms.length:=by have:=congrArg List.length hty; simpa using this
  have z1:items.size=ns.length:=by have:=hi.length; rw [List.length_map] at this; simpa using this.symm
  have z2:items2.size=ms.length:=by have:=hj.length; rw [List.length_map] at this; simpa using this.symm
  wp_walk using wpAny_loadPart' hl,wpAny_loadPart' hb,wpAny_forIn_list _ (fun rest b s'=>b.1=none∧s'=⟨hp,g,d,tk,os⟩∧∃(vs ws:List Value) (ns' ms':List Key),rest=vs.zip ws∧
   Vals (ns'.map kV) vs∧Vals (ms'.map kV) ws∧ns'.map eU=ms'.map eU∧R (.ok (.ret (.bool (gn ns' ms')))) ⟨hp,g,d,tk,os⟩) _
  case turn=>
   rintro ⟨y,x⟩ rest b s' ⟨hb',rfl,vs,ws,ns',ms',hz,Yi,hwi,hlen,hR⟩
   cases ns' with
   | nil=>cases Yi; rw [List.zip_nil_left] at hz; cases hz
   | cons a ns'=>
    cases ms' with
    | nil=>cases hlen
    | cons c ms'=>
     cases Yi with
     | cons r1 WT=>
      cases hwi with
      | cons r2 WW=>
       rw [List.zip_cons_cons] at hz
       injection hz with hyx hrest
       injection hyx with hy hx
       subst hy hx
       have t1:eU a=eU c:=(List.cons.inj hlen).1
       have t2:=(List.cons.inj hlen).2
       unfold gn at hR
       refine wpAny_bind (Ls A.in1 ⟨hp,g,d,tk,os⟩ r1 r2 t1 prog w _ _ ?_)
       by_cases hac:a=c
       ·rw [if_pos hac] at hR
        rw [decide_eq_true hac]
        wp_walk
        exact ⟨rfl,rfl,_,_,_,_,hrest,WT,WW,t2,hR⟩
       ·rw [if_neg hac] at hR
        rw [decide_eq_false hac]
        have hri:=Ax A.in1 ⟨hp,g,d,tk,os⟩ r1 r2 t1 prog w
        wp_walk using hri
        exact ⟨_,rfl,by simpa using hR⟩
  case fin=>
   rintro ⟨b1,b2⟩ s' ⟨hb',rfl,vs,ws,ns',ms',hz,Yi,hwi,hlen,hR⟩
   simp only at hb'
   subst hb'
   have hv:gn ns' ms'=decide (items.size < items2.size):=by
    rw [decide_eq_false (by omega)]
    cases ns' with
    | nil=>unfold gn; rfl
    | cons a ns'=>
     cases ms' with
     | nil=>cases hlen
     | cons c ms'=>
      cases Yi with
      | cons r1 WT=>
       cases hwi with
       | cons r2 WW=>
        rw [List.zip_cons_cons] at hz
        cases hz
   rw [hv] at hR
   wp_walk
   exact ⟨_,rfl,by simpa [Builtin.Tuple.tupleCompareSizes] using hR⟩
  case h=>
   exact ⟨rfl,rfl,items.toList,items2.toList,ns,ms,rfl,hi,hj,hty,h⟩
end
theorem uD {prog:Program} {w:World} {A:Around} {E:Value→Shared→Prop} {s:Shared} {l b:Addr} {items items2:Array Value} {ns ms:List Key} {Q:Value→Shared→Prop} (hl:IsTup s.heap l items) (hb:IsTup s.heap b items2) (hi:Vals (ns.map kV) items.toList) (hj:Vals (ms.map kV) items2.toList) (hty:ns.map eU=ms.map eU)
  (hu:A.units < cLine) (h:Q (.bool (gn ns ms)) s):wpAny (model prog w) A (compareOp .Lt (.ref l) (.ref b)) Q E s:=by
 obtain ⟨⟨cls,dd,data,sl⟩,ho,hc,n,hd⟩:=id hl
 obtain ⟨⟨cls2,dd2,data2,sl2⟩,ho2,hc2,n2,hd2⟩:=id hb
 simp only at hc hd hc2 hd2
 subst hc hd hc2 hd2
 exact richCompare_meets_room (op:=.Lt) ⟨_,ho,rfl⟩ ⟨_,ho2,rfl⟩ PySem.F.slot_tuple_lt PySem.F.entry_tuple_lt (PySem.F.args_tuple_lt_2 _ _) (wj l b items items2 n n2 dd dd2 sl sl2 ns ms hi hj hty)
  ⟨ho,ho2,show Value.bool (gn ns ms)≠Value.notImplemented∧Q (.bool (gn ns ms)) s from ⟨(fun x=>nomatch x),h⟩⟩ hu
mutual
noncomputable def RX (H:Hp):PyData→V→Prop
 | .none,v=>v=.non
 | .bool b,v=>v=.bl b
 | .int i,v=>v=.int i
 | .str x,v=>v=.str x
 | .list ds,v=>∃a vs,v=.ref a∧H a=some (.lst vs)∧Ay H ds vs
 | .tuple ds,v=>∃a vs,v=.ref a∧H a=some (.tup vs)∧Ay H ds vs
 | .dict _,_=>False
noncomputable def Ay (H:Hp):List PyData→List V→Prop
 | [],vs=>vs=[]
 | d::ds,vs=>∃v r,vs=v::r∧RX H d v∧Ay H ds r
end
mutual
theorem RX.same {H H':Hp} (s:aQ H H'):∀{d:PyData} {v:V},RX H d v→RX H' d v
 | .none,_,h=>h
 | .bool _,_,h=>h
 | .int _,_,h=>h
 | .str _,_,h=>h
 | .list ds,_,h=>by
  obtain ⟨a,vs,e,q,r⟩:=h
  exact ⟨a,vs,e,s _ _ q,Ay.same s r⟩
 | .tuple ds,_,h=>by
  obtain ⟨a,vs,e,q,r⟩:=h
  exact ⟨a,vs,e,s _ _ q,Ay.same s r⟩
theorem Ay.same {H H':Hp} (s:aQ H H'):∀{ds:List PyData} {vs:List V},Ay H ds vs→Ay H' ds vs
 | [],_,h=>h
 | d::ds,vs,h=>by
  obtain ⟨v,r,e,q,t⟩:=h
  exact ⟨v,r,e,RX.same s q,Ay.same s t⟩
end
mutual
theorem RX.rd {K:PySem.W.Frag} {H:Hp}:∀{d:PyData} {v:V},RX H d v→RD K H d v
 | .none,_,h=>h
 | .bool _,_,h=>h
 | .int _,_,h=>h
 | .str _,_,h=>h
 | .list ds,_,h=>by
  obtain ⟨a,vs,e,q,r⟩:=h
  exact ⟨a,vs,e,cZ.of q,Ay.rd r⟩
 | .tuple ds,_,h=>by
  obtain ⟨a,vs,e,q,r⟩:=h
  exact ⟨a,vs,e,ig.of q,Ay.rd r⟩
theorem Ay.rd {K:PySem.W.Frag} {H:Hp}:∀{ds:List PyData} {vs:List V},Ay H ds vs→xu K H ds vs
 | [],_,h=>h
 | d::ds,vs,h=>by
  obtain ⟨v,r,e,q,t⟩:=h
  exact ⟨v,r,e,RX.rd q,Ay.rd t⟩
end
noncomputable def WX:PyData→Value
 | .none=>.type "NoneType"
 | .bool _=>.type "bool"
 | .int _=>.type "int"
 | .str _=>.type "str"
 | .list _=>.type "list"
 | .tuple _=>.type "tuple"
 | .dict _=>.type "dict"
theorem RX.ty {K:PySem.W.Frag} {H:Hp} {d:PyData} {v:V} (h:RX H d v):mR K H v (WX d):=by
 cases d with
 | none=>cases (show v=.non from h); exact .non
 | bool b=>cases (show v=.bl b from h); exact .bl b
 | int i=>cases (show v=.int i from h); exact .int i
 | str x=>cases (show v=.str x from h); exact .str x
 | list ds=>obtain ⟨a,vs,rfl,e,_⟩:=h; exact .lst e
 | tuple ds=>obtain ⟨a,vs,rfl,e,_⟩:=h; exact .tup e
 | dict ds=>exact (show False from h).elim
section
variable {X:Cx}
theorem Em (hu:X.A.units < cLine):gF X (compareOp .Lt) (fun x y H Q=>∃a b ks js,x=.ref a∧y=.ref b∧H a=some (.tup (ks.map kV))∧H b=some (.tup (js.map kV))∧ks.map eU=js.map eU∧Q (.bl (gn ks js)) H):=by
 intro pins s σ H x y v u Q I rx ry h
 obtain ⟨a,b,ks,js,rfl,rfl,ha,hb,ht,q⟩:=h
 cases rx
 cases ry
 obtain ⟨_,its,r1,p1⟩:=(show bW X.prog X.w H s.heap a (.tup (ks.map kV)) from I.hok a _ ha)
 obtain ⟨_,its2,r2,p2⟩:=(show bW X.prog X.w H s.heap b (.tup (js.map kV)) from I.hok b _ hb)
 exact uD p1 p2 (by simpa using r1) (by simpa using r2) ht hu (bB I q rfl)
theorem pC (hu:X.A.units < cLine):gF X (compareOp .Lt) (fun x y H Q=>(∃a b,x=kV a∧y=kV b∧eU a=eU b∧Q (.bl (kLt a b)) H)∨∃a b ks js,x=.ref a∧y=.ref b∧H a=some (.tup (ks.map kV))∧H b=some (.tup (js.map kV))∧ks.map eU=js.map eU∧Q (.bl (gn ks js)) H):=by
 refine gF.or ?_ (Em hu)
 intro pins s σ H x y v u Q I rx ry h
 obtain ⟨a,b,rfl,rfl,ht,q⟩:=h
 exact Ax X.A s rx ry ht _ _ _ _ (bB I q rfl)
end
end L2
namespace L2
open PySem PySem.Spec PyProof.Rows PySem.W
structure Ord (lt:Nat→Nat→Bool):Prop where
 WY:∀a b,lt a b=true→lt b a=false
 trans:∀a b c,lt b a=false→lt c b=false→lt c a=false
section
variable {N:Nat} {lt:Nat→Nat→Bool} (O:Ord lt)
noncomputable abbrev at0 (p:Array Nat) (i:Nat):Nat:=p.getD i 0
noncomputable def Up (lt:Nat→Nat→Bool) (p:Array Nat) (n:Nat):Prop:=∀i j,i < j→j < n→lt (at0 p j) (at0 p i)=false
noncomputable def Dn (lt:Nat→Nat→Bool) (p:Array Nat) (n:Nat):Prop:=∀i j,i < j→j < n→lt (at0 p i) (at0 p j)=false
theorem KP.size {p:Array Nat} (h:KP N p):p.size=N:=by
 have:=h.length_eq
 rw [List.length_range] at this
 simpa using this
include O
theorem Up.succ {p:Array Nat} {n:Nat} (h:Up lt p n) (hn:1≤n) (hs:lt (at0 p n) (at0 p (n - 1))=false):Up lt p (n + 1):=fun i j hij hj=>by
 by_cases e:j < n
 ·exact h i j hij e
 ·have ej:j=n:=by omega
  subst ej
  by_cases ei:i=j - 1
  ·rw [ei]; exact hs
  ·exact O.trans _ _ _ (h i (j - 1) (by omega) (by omega)) hs
theorem Dn.succ {p:Array Nat} {n:Nat} (h:Dn lt p n) (hn:1≤n) (hs:lt (at0 p (n - 1)) (at0 p n)=false):Dn lt p (n + 1):=fun i j hij hj=>by
 by_cases e:j < n
 ·exact h i j hij e
 ·have ej:j=n:=by omega
  subst ej
  by_cases ei:i=j - 1
  ·rw [ei]; exact hs
  ·exact O.trans _ _ _ hs (h i (j - 1) (by omega) (by omega))
end
end L2
namespace L2
open PySem PySem.Spec PyProof.Rows PySem.W
theorem Qg {a b:Key} (h:kLt a b=true):kLt b a=false:=by
 cases a with
 | inl i=>
  cases b with
  | inr y=>cases h
  | inl j=>have:=of_decide_eq_true h; exact decide_eq_false (by omega)
 | inr x=>
  cases b with
  | inl y=>cases h
  | inr y=>exact KeyOrd.klt_asymm (O:=strKind.toKeyOrd) (a:=x.cps.toList) (b:=y.cps.toList) h
theorem Uh {a b c:Key} (t1:eU a=eU b) (t2:eU b=eU c) (h:kLt a c=true):kLt a b=true∨kLt b c=true:=by
 cases a with
 | inl i=>
  cases b with
  | inr y=>cases t1
  | inl j=>
   cases c with
   | inr y=>cases t2
   | inl k=>
    have h1:=of_decide_eq_true h
    by_cases h2:i < j
    ·exact .inl (decide_eq_true h2)
    ·exact .inr (decide_eq_true (by omega))
 | inr x=>
  cases b with
  | inl y=>cases t1
  | inr y=>
   cases c with
   | inl k=>cases t2
   | inr z=>exact strKind.negTrans x.cps.toList y.cps.toList z.cps.toList h
theorem str_of_list {x y:Str} (h:x.cps.toList=y.cps.toList):x=y:=by
 cases x
 cases y
 simp at h
 simp [h]
theorem Ui {a b:Key} (t:eU a=eU b) (h1:kLt a b=false) (h2:kLt b a=false):a=b:=by
 cases a with
 | inl i=>
  cases b with
  | inr y=>cases t
  | inl j=>
   have g1:=of_decide_eq_false h1
   have g2:=of_decide_eq_false h2
   have:i=j:=by omega
   rw [this]
 | inr x=>
  cases b with
  | inl y=>cases t
  | inr y=>
   have:=strKind.total x.cps.toList y.cps.toList h1 h2
   rw [str_of_list this]
noncomputable def qm (rows:List Row) (i:Nat):List Key:=(rows.getD i (rows.headD (0,[]))).2
noncomputable def gG (rows:List Row) (i j:Nat):Bool:=gn (qm rows i) (qm rows j)
noncomputable def runK {α:Type} (lt:Nat→Nat→Bool):KasT α→α
 | .ret a=>a
 | .ask i j k=>runK lt (k (lt i j))
theorem bU.run {α:Type} {N:Nat} {lt:Nat→Nat→Bool} {R:α→Prop}:∀{t:KasT α},bU N lt t R→bU N lt t (fun a=>R a∧a=runK lt t)∧R (runK lt t)
 | .ret a,h=>⟨⟨h,rfl⟩,h⟩
 | .ask i j k,h=>let r:=bU.run h.2.2; ⟨⟨h.1,h.2.1,r.1⟩,r.2⟩
noncomputable def wu (ks:List (List Key)):List Nat:=if ks.length < 2 then List.range ks.length else (runK (fun i j=>gn (ks.getD i (ks.headD [])) (ks.getD j (ks.headD []))) (kas_sort ks.length)).toList
noncomputable def Lw (ks:List (List Key)):List (List Key):=(wu ks).map fun i=>ks.getD i (ks.headD [])
theorem Jr (ks:List (List Key)):(wu ks).Perm (List.range ks.length):=by
 unfold wu
 split
 ·exact List.Perm.refl _
 ·exact (bU.run (GJ (lt:=fun i j=>gn (ks.getD i (ks.headD [])) (ks.getD j (ks.headD []))) (by omega))).2
theorem Js (ks:List (List Key)):(Lw ks).Perm ks:=by
 have:=(Jr ks).map fun i=>ks.getD i (ks.headD [])
 refine this.trans (List.Perm.of_eq ?_)
 refine List.ext_getElem (by simp) fun i h1 h2=>?_
 simp [h2]
theorem qp (rows:List Row) (i:Nat):qm rows i=(rows.map (·.2)).getD i ((rows.map (·.2)).headD []):=by
 unfold qm
 cases h:rows[i]? with
 | none=>cases rows <;> simp_all [List.getD]
 | some r=>simp [List.getD,h]
theorem Jt {rows:List Row} {n:Nat} (hn:n=rows.length) (h2:2≤n):bU n (gG rows) (kas_sort n) fun p=>KP n p∧p.toList=wu (rows.map (·.2)):=by
 subst hn
 have e:gG rows=fun i j=>gn ((rows.map (·.2)).getD i ((rows.map (·.2)).headD [])) ((rows.map (·.2)).getD j ((rows.map (·.2)).headD [])):=by
  funext i j
  rw [gG,qp,qp]
 refine (bU.run (GJ (lt:=gG rows) (N:=rows.length) (by omega))).1.mono fun p hp=>⟨hp.1,?_⟩
 unfold wu
 rw [if_neg (by rw [List.length_map]; omega),hp.2,e,List.length_map]
theorem Eo {rows:List Row} {n:Nat} (hn:n=rows.length) (h:n < 2):List.range n=wu (rows.map (·.2)):=by
 subst hn
 unfold wu
 rw [if_pos (by rw [List.length_map]; exact h),List.length_map]
theorem Qh {rows:List Row} {p:List Nat} (h:p.Perm (List.range rows.length)) (hr:p=wu (rows.map (·.2))):(p.map fun i=>rows.getD i (0,[])).map (·.2)=Lw (rows.map (·.2)):=by
 unfold Lw
 rw [←hr,List.map_map]
 refine List.map_congr_left fun i hi=>?_
 have hlt:=List.mem_range.mp (h.mem_iff.mp hi)
 simp [List.getD,hlt]
section
variable {X:Cx}
theorem Lx {prog:Program} {w:World} {A:Around} {s':Shared} {rows:List Row} {sh:List Bool} (ha:∀r∈rows,TupAt s'.heap r∧r.2.map eU=sh) {i j:Nat} (hi:i < rows.length) (hj:j < rows.length) (C:Bool→Shared→Prop) (q:C (gG rows i j) s'):
  kas_ask prog w A (tuples' true) (rows.map fun r=>Value.ref r.1) i j C s':=by
 refine Qf ha hi hj C ?_
 have e1:qm rows i=rowAt rows i:=by simp [qm,rowAt,List.getD,hi]
 have e2:qm rows j=rowAt rows j:=by simp [qm,rowAt,List.getD,hj]
 unfold gG at q
 rw [e1,e2] at q
 exact q
end
end L2
namespace L2
open PySem PySem.Spec PyProof.Rows PySem.W
noncomputable abbrev uE:=List (Option PyData)
noncomputable def mW (H:Hp) (Γ:uE) (σ:St):Prop:=σ.length=Γ.length∧∀(i:Nat) (d:PyData),Γ[i]?=some (some d)→∃v,σ[i]?=some (some v)∧RX H d v
theorem mW.same {H H':Hp} {Γ:uE} {σ:St} (h:mW H Γ σ) (s:aQ H H'):mW H' Γ σ:=⟨h.1,fun i d e=>let ⟨v,a,b⟩:=h.2 i d e; ⟨v,a,b.same s⟩⟩
theorem mW.set {H:Hp} {Γ:uE} {σ:St} (h:mW H Γ σ) {i:Nat} {d:PyData} {v:V} (hv:RX H d v):mW H (Γ.set i (some d)) (σ.set i (some v)):=by
 refine ⟨by rw [List.length_set,List.length_set]; exact h.1,fun j e he=>?_⟩
 by_cases hj:i=j
 ·subst hj
  rw [List.getElem?_set] at he
  simp only [if_true] at he
  split at he
  ·rename_i hl
   cases he
   refine ⟨v,?_,hv⟩
   rw [List.getElem?_set]
   simp only [if_true]
   rw [if_pos (by rw [h.1]; exact hl)]
  ·cases he
 ·rw [List.getElem?_set_ne hj] at he
  rw [List.getElem?_set_ne hj]
  exact h.2 j e he
noncomputable def er (Z:List Addr) (H:Hp):Hp:=fun b=>if b∈Z then none else H b
theorem bw {Z:List Addr} {H:Hp} {b:Addr} {o:HO} (h:er Z H b=some o):H b=some o:=by
 unfold er at h
 split at h
 ·cases h
 ·exact h
theorem sE (Z:List Addr) (H:Hp):aQ (er Z H) H:=fun b o h=>bw h
theorem qt {Z:List Addr} {H H':Hp} (s:aQ H H'):aQ (er Z H) (er Z H'):=fun b o h=>by
 unfold er at h ⊢
 split at h
 ·cases h
 ·rename_i n
  rw [if_neg n]
  exact s _ _ h
theorem uF (H:Hp):er [] H=H:=by
 funext b
 simp [er]
noncomputable def yR (t:TE) (Γ:uE) (d:PyData):Prop:=∀Z σ H (Q:VK),(∀b,b∈Z→H b≠none)→mW (er Z H) Γ σ→(∀v H',aQ H H'→RX (er Z H') d v→Q v H')→t σ H Q
noncomputable def GQ (t:TA) (Γ:uE) (ds:List PyData):Prop:=∀Z σ H (Q:List V→Hp→Prop),(∀b,b∈Z→H b≠none)→mW (er Z H) Γ σ→(∀vs H',aQ H H'→Ay (er Z H') ds vs→Q vs H')→t σ H Q
section
variable {Γ:uE} {K:PySem.W.Frag}
theorem yR.run {t:TE} {d:PyData} (h:yR t Γ d) {σ:St} {H:Hp} {Q:VK} (e:mW H Γ σ) (q:∀v H',aQ H H'→RX H' d v→Q v H'):t σ H Q:=
 h [] σ H Q (fun _ m=>by cases m) (by rw [uF]; exact e) fun v H' s r=>q v H' s (by rw [uF] at r; exact r)
end
end L2
namespace HT
open PySem PySem.Spec PyProof.Rows
section
variable {prog:Program} {w:World} {A:Around} {E:Value→Shared→Prop} {s:Shared}
theorem oJ {t sl:Addr} {items:Array Value} {vl vu:Value} {lo hi:Option Int} {Q:Value→Shared→Prop} (ht:IsTup s.heap t items) (hs:s.heap.IsSliceOf sl vl vu .none) (pl:IsPart vl lo) (pu:IsPart vu hi)
  (hw:dW items.size 0 lo=0∧dW items.size items.size hi=items.size) (h:Q (.ref t) s):wpAny (model prog w) A (getItem (.ref t) (.ref sl)) Q E s:=by
 obtain ⟨os,hos,hcs,hds⟩:=id hs
 have hTs:s.TypeIs (.ref sl) "slice":=⟨os,hos,hcs⟩
 unfold getItem
 try with_reducible refine wpAny_holding ?_
 first | refine wpAny_bind (wpAny_pure ?_) | skip
 refine wpAny_bind (wpAny_sequenceKey ht.typeIs (by decide) ?_)
 refine wpAny_bind (wpAny_callSpecial?_slot (name:=Str.ofString "__getitem__") ht.typeIs PyProof.Rows.slot_tuple_getitem
  (wpAny_call_entry PyProof.Rows.slot_tuple_getitem ht.typeIs entry_tuple_getitem ?_ (args_tuple_getitem _ _)))
 show wpAny _ _ (Builtin.Tuple.tupleItemsOf (.ref t) >>= _) _ _ s
 refine wpAny_bind (tupleItemsOf_ ht ?_)
 refine wpAny_bind (wpAny_typeOf hTs ?_)
 rw [if_pos (by decide)]
 refine wpAny_bind (jP hs pl pu ?_)
 have hyes:((((dW items.size 0 lo:Nat):Int)==0&&(1:Int)==1&&(dW items.size items.size hi - dW items.size 0 lo)==items.size)=true):=by
  rw [hw.1,hw.2]
  simp
 show wpAny _ _ (if (((dW items.size 0 lo:Nat):Int)==0&&(1:Int)==1&&(dW items.size items.size hi - dW items.size 0 lo)==items.size)=true then _ else _) _ _ s
 rw [if_pos hyes]
 unfold Builtin.Tuple.tupleIsExact
 refine wpAny_bind (wpAny_bind (wpAny_typeOf ht.typeIs (wpAny_pure ?_)))
 rw [if_pos (by decide)]
 refine wpAny_bind (wpAny_rule ?_)
 exact wpAny_pure ⟨_,rfl,wpAny_pure h⟩
end
end HT
namespace L2
open PySem PySem.Spec PyProof.Rows PySem.W
section
variable {X:Cx}
noncomputable def Zq (K:PySem.W.Frag):V→Option Int→Option Int→Hp→VK→Prop:=fun x lo hi H Q=>∃a xs,x=.ref a∧ig K H a xs∧(um xs lo hi=xs→Q (.ref a) H)∧∀p,H p=none→Q (.ref p) (upd H p (.tup (um xs lo hi)))
theorem Qi:Pr X (Zq X.K):=by
 intro pins s σ H x v vl vu lo hi sl Q I rx hs pl pu h
 obtain ⟨a,xs,rfl,hx,q1,q2⟩:=h
 by_cases hw:HT.dW xs.length 0 lo=0∧HT.dW xs.length xs.length hi=xs.length
 ·cases rx
  obtain ⟨its,r,ht,hz⟩:=I.tuple hx
  have hlen:its.toArray.size=xs.length:=by rw [List.size_toArray]; exact r.length.symm
  refine ⟨"tuple",_,PyProof.Rows.slot_tuple_getitem.lookup,ht.typeIs,?_⟩
  refine HT.oJ ht hs pl pu (by rw [hlen]; exact hw) ?_
  refine ⟨.ref a,H,I,rfl,q1 ?_⟩
  unfold um
  rw [hw.1,hw.2]
  simp
 ·exact TX pins s σ H _ v vl vu lo hi sl Q I rx hs pl pu ⟨a,xs,rfl,hx,hw,q2⟩
end
end L2
namespace HT
open PySem PySem.Spec PyProof.Rows
open Sem (wp)
open Builtin
end HT
namespace L2
open PySem PySem.Spec PyProof.Rows PySem.W
section
variable {X:Cx}
end
end L2
namespace L2
open PySem PySem.Spec PyProof.Rows PySem.W
section
variable {Γ:uE} {K:PySem.W.Frag}
end
end L2
namespace L2
open PySem PySem.Spec PyProof.Rows PySem.W
section
variable {Γ:uE} {K:PySem.W.Frag}
end
end L2
namespace L2
open PySem PySem.Spec PyProof.Rows PySem.W
section
variable {Γ:uE} {K:PySem.W.Frag}
end
end L2
namespace L2
open PySem PySem.Spec PyProof.Rows PySem.W
section
variable {X:Cx}
theorem Ep (hu:X.A.units + 64 < cLine):gF X (compareOp .NotEq) (fun x y H Q=>∃d e,RX H d x∧RX H e y∧PySem.SeqAt.shaped d=true∧PySem.SeqAt.shaped e=true∧Q (.bl (!PyData.eqv d e)) H):=by
 intro pins s σ H x y v u Q I rx ry h
 obtain ⟨d,e,hd,he,h1,h2,q⟩:=h
 obtain ⟨as,ra⟩:=RD.reads I (hd.rd (K:=X.K)) rx
 obtain ⟨bs,rb⟩:=RD.reads I (he.rd (K:=X.K)) ry
 exact ne_dataH ra rb h1 h2 hu ⟨.bl _,H,I,rfl,q⟩
end
section
variable {Γ:uE} {K:PySem.W.Frag}
noncomputable def Uj (t:TE) (Γ:uE) (d:PyData):Prop:=∀σ H (Q:VK),mW H Γ σ→(∀v H',aQ H H'→RX H' d v→Q v H')→t σ H Q
theorem yR.r {t:TE} {d:PyData} (h:yR t Γ d):Uj t Γ d:=fun σ H Q e q=>h.run e q
theorem GQ.run {t:TA} {ds:List PyData} (h:GQ t Γ ds) {σ:St} {H:Hp} {Q:List V→Hp→Prop} (e:mW H Γ σ) (q:∀vs H',aQ H H'→Ay H' ds vs→Q vs H'):t σ H Q:=
 h [] σ H Q (fun _ m=>by cases m) (by rw [uF]; exact e) fun v H' s r=>q v H' s (by rw [uF] at r; exact r)
end
end L2
namespace L2
open PySem PySem.Spec PyProof.Rows PySem.W
theorem tO {xs:Array Nat} (h:xs.toList.Pairwise (· < ·)) {i k d:Nat} (hik:i < k) (hk:k < xs.size):xs.getD i d < xs.getD k d:=by
 have h1:=List.pairwise_iff_getElem.mp h i k (by simpa using Nat.lt_trans hik hk) (by simpa using hk) hik
 have hi:i < xs.size:=Nat.lt_trans hik hk
 rw [Array.getD_eq_getD_getElem?,Array.getD_eq_getD_getElem?,Array.getElem?_eq_getElem hk,Array.getElem?_eq_getElem hi]
 simpa using h1
theorem uG {xs:Array Nat} {j:Nat} (h:xs.toList.Pairwise (· < ·)):∀f lo hi,lo≤hi→hi≤xs.size→hi - lo≤f→(∀i,i < lo→xs.getD i j < j)→(∀i,hi≤i→i < xs.size→j≤xs.getD i j)→
  SetTable.below.go xs j f lo hi≤xs.size∧(∀i,i < SetTable.below.go xs j f lo hi→xs.getD i j < j)∧∀i,SetTable.below.go xs j f lo hi≤i→i < xs.size→j≤xs.getD i j
 | 0,lo,hi,h1,h2,h3,h4,h5=>by
  unfold SetTable.below.go
  exact ⟨by omega,h4,fun i a b=>h5 i (by omega) b⟩
 | f + 1,lo,hi,h1,h2,h3,h4,h5=>by
  unfold SetTable.below.go
  by_cases hlt:lo < hi
  ·rw [if_pos hlt]
   dsimp only
   by_cases hm:xs.getD ((lo + hi) / 2) j < j
   ·rw [if_pos hm]
    refine uG h f _ _ (by omega) h2 (by omega) (fun i hi'=>?_) h5
    by_cases e:i=(lo + hi) / 2
    ·rw [e]; exact hm
    ·exact Nat.lt_trans (tO h (by omega) (by omega)) hm
   ·rw [if_neg hm]
    refine uG h f _ _ (by omega) (by omega) (by omega) h4 (fun i hi' hs=>?_)
    by_cases e:i=(lo + hi) / 2
    ·rw [e]; omega
    ·have:=tO (d:=j) h (show (lo + hi) / 2 < i by omega) hs
     omega
  ·rw [if_neg hlt]
   exact ⟨by omega,h4,fun i a b=>h5 i (by omega) b⟩
theorem rA {xs:Array Nat} (j:Nat) (h:xs.toList.Pairwise (· < ·)):SetTable.below xs j≤xs.size∧(∀i,i < SetTable.below xs j→xs.getD i j < j)∧∀i,SetTable.below xs j≤i→i < xs.size→j≤xs.getD i j:=
 uG h xs.size 0 xs.size (Nat.zero_le _) (Nat.le_refl _) (by omega) (fun i hi=>by omega) (fun i a b=>by omega)
theorem GR {xs:Array Nat} (h:xs.toList.Pairwise (· < ·)):SetTable.below xs 0=0:=by
 obtain ⟨_,b,_⟩:=rA 0 h
 cases e:SetTable.below xs 0 with
 | zero=>rfl
 | succ n=>have:=b 0 (by omega); omega
theorem uH {xs:Array Nat} (h:xs.toList.Pairwise (· < ·)) {i:Nat} (hi:i < xs.size):SetTable.below xs (xs[i] + 1)=i + 1:=by
 obtain ⟨a,b,c⟩:=rA (xs[i] + 1) h
 have e:∀k d,(hk:k < xs.size)→xs.getD k d=xs[k]:=fun k d hk=>by rw [Array.getD_eq_getD_getElem?,Array.getElem?_eq_getElem hk]; rfl
 have mono:∀p q,(hp:p < xs.size)→(hq:q < xs.size)→p < q→xs[p] < xs[q]:=fun p q hp hq pq=>by
  have:=tO (d:=0) h pq hq
  rwa [e p 0 hp,e q 0 hq] at this
 by_cases h1:SetTable.below xs (xs[i] + 1)≤i
 ·have:=c i h1 hi
  rw [e i _ hi] at this
  omega
 ·by_cases h2:SetTable.below xs (xs[i] + 1)=i + 1
  ·exact h2
  ·have hs:i + 1 < xs.size:=by omega
   have:=b (i + 1) (by omega)
   rw [e _ _ hs] at this
   have:=mono i (i + 1) hi hs (by omega)
   omega
structure iu (b:Bool) (t:SetTable):Prop where
 led:t.led=b
 Zr:t.dummies=#[]
 Zt:t.place.toList.Pairwise (· < ·)
theorem iu.standIn {b:Bool} {t:SetTable} (h:iu b t) (n:Nat):iu b (t.standIn n):=⟨h.led,rfl,by simpa [SetTable.standIn] using List.pairwise_lt_range⟩
theorem iu.orStandIn {b:Bool} {t:SetTable} (h:iu b t) (n:Nat):iu b (t.orStandIn n):=by
 unfold SetTable.orStandIn
 split
 ·exact h
 ·exact h.standIn n
theorem has_none (j:Nat):SetTable.has #[] j=false:=rfl
theorem uI {t:SetTable} (hd:t.dummies=#[]) (f:Nat→Int) (h:Int):∀fuel (p:SetTable.Probe) j d,p.dummy=none→SetTable.probe.go t f h fuel p=some (.empty j d)→d=none∧t.slot j=.empty
 | 0,p,j,d,_,e=>by simp [SetTable.probe.go] at e
 | fuel + 1,p,j,d,hp,e=>by
  unfold SetTable.probe.go at e
  have adv:(t.advance p).dummy=none:=by
   unfold SetTable.advance
   split <;> exact hp
  cases hs:t.slot p.j with
  | empty=>
   rw [hs] at e
   simp only [Option.some.injEq,SetTable.Met.empty.injEq] at e
   exact ⟨by rw [←e.2]; exact hp,by rw [←e.1]; exact hs⟩
  | dummy=>
   unfold SetTable.slot at hs
   rw [hd] at hs
   simp only [has_none] at hs
   split at hs
   ·cases hs
   ·simp at hs
  | live i=>
   rw [hs] at e
   simp only at e
   split at e
   ·cases e
   ·exact uI hd f h fuel _ j d adv e
theorem Er {xs:Array Nat} {j:Nat} (h:xs.toList.Pairwise (· < ·)) (hn:xs[SetTable.below xs j]?≠some j):(SetTable.insertAt xs (SetTable.below xs j) j).toList.Pairwise (· < ·):=by
 obtain ⟨a,b,c⟩:=rA j h
 rw [SetTable.toList_insertAt]
 have h':=h
 rw [←List.take_append_drop (SetTable.below xs j) xs.toList,List.pairwise_append] at h'
 obtain ⟨h1,h2,h3⟩:=h'
 have e:∀k d,(hk:k < xs.size)→xs.getD k d=xs.toList[k]'(by simpa using hk):=fun k d hk=>by rw [Array.getD_eq_getD_getElem?,Array.getElem?_eq_getElem hk]; simp
 have lo:∀x,x∈xs.toList.take (SetTable.below xs j)→x < j:=fun x hx=>by
  obtain ⟨i,hi,rfl⟩:=List.getElem_of_mem hx
  have hi':i < SetTable.below xs j:=by simp at hi; omega
  have:=b i hi'
  rw [e i j (by omega)] at this
  rw [List.getElem_take]
  exact this
 have hi:∀x,x∈xs.toList.drop (SetTable.below xs j)→j < x:=fun x hx=>by
  obtain ⟨i,hi,rfl⟩:=List.getElem_of_mem hx
  have hs:SetTable.below xs j + i < xs.size:=by simp at hi; omega
  have h0:=c (SetTable.below xs j) (Nat.le_refl _) (by omega)
  have ne:xs.getD (SetTable.below xs j) j≠j:=fun z=>hn (by
   have hb:SetTable.below xs j < xs.size:=by omega
   rw [Array.getD_eq_getD_getElem?,Array.getElem?_eq_getElem hb] at z
   rw [Array.getElem?_eq_getElem hb]
   simpa using z)
  rw [List.getElem_drop,←e _ j hs]
  by_cases z:i=0
  ·subst z
   simp only [Nat.add_zero]
   omega
  ·have:=tO (d:=j) h (show SetTable.below xs j < SetTable.below xs j + i by omega) hs
   omega
 rw [List.pairwise_append]
 refine ⟨h1,List.pairwise_cons.mpr ⟨hi,h2⟩,fun x hx y hy=>?_⟩
 rcases List.mem_cons.mp hy with rfl | hy
 ·exact lo x hx
 ·exact h3 x hx y hy
theorem iu.layNew {b:Bool} {t:SetTable} (h:iu b t) (es:Array (Int×Value)) (hs:Int) (x:Value):iu b (layNew t es hs x).2.1:=by
 unfold PySem.layNew
 cases hf:t.freeSlot hs with
 | none=>exact h.standIn _
 | some q=>
  obtain ⟨slot,wd⟩:=q
  have free:t.slot slot=.empty:=by
   unfold SetTable.freeSlot at hf
   split at hf
   ·rename_i j d hp
    obtain ⟨rfl,hj⟩:=uI h.Zr _ _ _ _ _ _ rfl hp
    simp only [Option.some.injEq,Prod.mk.injEq] at hf
    rw [←hf.1]
    exact hj
   ·cases hf
  have hn:t.place[SetTable.below t.place slot]?≠some slot:=fun z=>by
   unfold SetTable.slot at free
   simp [z] at free
  show iu b ((t.put slot).1.orStandIn _)
  refine iu.orStandIn (t:=(t.put slot).1) ⟨h.led,?_,Er h.Zt hn⟩ _
  show (if SetTable.has t.dummies slot then _ else t.dummies)=#[]
  rw [h.Zr]
  rfl
theorem iu.relayAll {b:Bool} {t:SetTable} (h:iu b t) (es:Array (Int×Value)) (n:Nat):iu b (relayAll t es n).2.1:=by
 unfold PySem.relayAll
 split
 ·rename_i t' order hr
  dsimp only
  split
  ·unfold SetTable.relaid SetTable.laid at hr
   cases ho:SetTable.layClean (SetTable.sizeAbove n - 1) (es.map (·.1)) with
   | none=>simp [ho] at hr
   | some owner=>
    simp only [ho,Option.bind_eq_bind,Option.bind_some,Option.pure_def,Option.some.injEq,Prod.mk.injEq] at hr
    rw [←hr.1]
    refine ⟨h.led,rfl,?_⟩
    simp only [List.map_filterMap]
    refine List.Pairwise.filterMap _ (fun x y hxy=>?_) List.pairwise_lt_range
    intro u hu v hv
    simp only [Option.map_eq_some_iff] at hu hv
    obtain ⟨p,⟨_,_,rfl⟩,rfl⟩:=hu
    obtain ⟨q,⟨_,_,rfl⟩,rfl⟩:=hv
    exact hxy
  ·exact h.standIn _
 ·exact h.standIn _
theorem iu.plain {b:Bool} {t:SetTable} (h:iu b t) (v:Bool):iu b { t with plain:=v }:=⟨h.led,h.Zr,h.Zt⟩
theorem iu.fresh (b:Bool):iu b (.fresh 0 0 b):=⟨rfl,rfl,.nil⟩
end L2
namespace L2
open PySem PySem.Spec PySem.W
section
variable {prog:Program} {w:World} {T:Type} [DecidableEq T] (knd:PySem.KeyKind prog w T)
noncomputable def bt (w:World):Bool:=!(w.params.followText "set-order")
inductive wz:List (Int×Value)→List T→Prop
 | nil:wz [] []
 | cons {e:Int×Value} {k:T} {es:List (Int×Value)} {ks:List T}:(knd.is k e.2=true∧e.1=knd.hash k∧e.2.scannable=true)→wz es ks→wz (e::es) (k::ks)
noncomputable def pD (h:Heap) (a:Addr) (ks:List T):Prop:=∃o es ep t,h.get? a=some o∧o.ExactSet∧o.data=.set es ep t∧(∃ks',wz knd es.toList ks'∧ks'.Perm ks)∧es.size < scanBound∧t.fits es.size=true∧iu (bt w) t
noncomputable def kW (ks:List T) (k:T):List T:=if k∈ks then ks else ks++[k]
variable {knd}
theorem wz.elems {es:List (Int×Value)} {ks:List T} (h:wz knd es ks):ElemsOf knd es:=by
 induction h with
 | nil=>intro e he; cases he
 | cons a _ ih=>
  intro e he
  rcases List.mem_cons.mp he with rfl | he
  ·exact ⟨⟨_,a.1,a.2.1⟩,a.2.2⟩
  ·exact ih e he
theorem wz.len {es:List (Int×Value)} {ks:List T} (h:wz knd es ks):es.length=ks.length:=by
 induction h with
 | nil=>rfl
 | cons _ _ ih=>simp [ih]
theorem wz.perm {es es':List (Int×Value)} (p:es'.Perm es):∀{ks:List T},wz knd es ks→∃ks',wz knd es' ks'∧ks'.Perm ks:=by
 induction p with
 | nil=>intro ks h; exact ⟨ks,h,.refl _⟩
 | cons x _ ih=>
  intro ks h
  cases h with
  | cons a r=>
   obtain ⟨ks',h1,h2⟩:=ih r
   exact ⟨_::ks',.cons a h1,h2.cons _⟩
 | swap x y l=>
  intro ks h
  cases h with
  | cons a r=>
   cases r with
   | cons b r=>exact ⟨_::_::_,.cons b (.cons a r),.swap ..⟩
 | trans _ _ ih1 ih2=>
  intro ks h
  obtain ⟨k2,h1,p1⟩:=ih2 h
  obtain ⟨k3,h2,p2⟩:=ih1 h1
  exact ⟨k3,h2,p2.trans p1⟩
theorem wz.push {es:List (Int×Value)} {ks:List T} (h:wz knd es ks) {k:T} {x:Value} (hk:knd.is k x=true) (hx:x.scannable=true):wz knd (es++[(knd.hash k,x)]) (ks++[k]):=by
 induction h with
 | nil=>exact .cons ⟨hk,rfl,hx⟩ .nil
 | cons a _ ih=>exact .cons a ih
theorem wz.mem {es:List (Int×Value)} {ks:List T} (h:wz knd es ks) {k:T} {x:Int×Value} (hm:x∈es) (hp:knd.is k x.2=true):k∈ks:=by
 induction h with
 | nil=>cases hm
 | cons a _ ih=>
  rcases List.mem_cons.mp hm with rfl | hm
  ·cases knd.inj _ _ _ hp a.1
   exact List.mem_cons_self ..
  ·exact List.mem_cons_of_mem _ (ih hm)
theorem wz.none {es:List (Int×Value)} {ks:List T} (h:wz knd es ks) {k:T} (e:es.findIdx? (fun e=>knd.is k e.2)=.none):k∉ks:=by
 have e':=List.findIdx?_eq_none_iff.mp e
 clear e
 induction h with
 | nil=>intro h; cases h
 | cons a _ ih=>
  intro hm
  rcases List.mem_cons.mp hm with rfl | hm
  ·have:=e' _ (List.mem_cons_self ..)
   rw [a.1] at this
   cases this
  ·exact ih (fun x hx=>e' x (List.mem_cons_of_mem _ hx)) hm
variable {A:Around} {E:Value→Shared→Prop} {s:Shared}
theorem GX {h:Heap} {a:Addr} {o:Obj} {es es':Array (Int×Value)} {ep:Nat} {t t':SetTable} {ks:List T} (ho:h.get? a=some o) (ex:o.ExactSet) (hd:o.data=.set es ep t) (e:∃ks',wz knd es'.toList ks'∧ks'.Perm ks)
  (hb:es'.size < scanBound) (hf:t'.fits es'.size=true) (tb:iu (bt w) t'):
  ∃o',(h.update a (Obj.putSet es' t')).get? a=some o'∧o'.ExactSet∧o'.data=.set es' (ep + 1) t'∧pD knd (h.update a (Obj.putSet es' t')) a ks:=by
 have g:=Heap.get?_update_self (Obj.putSet es' t') ho (by rw [putSet_of es' t' hd]; rfl)
 rw [putSet_of es' t' hd] at g
 exact ⟨_,g,ex,rfl,_,es',ep + 1,t',g,ex,rfl,e,hb,hf,tb⟩
theorem Qj {a:Addr} {k:T} {x:Value} {ks:List T} {Q:Bool→Shared→Prop} (hk:knd.is k x=true) (hx:x.scannable=true) (hS:pD knd s.heap a ks) (room:ks.length + 1 < scanBound)
  (h:∀b h',Heap.SameBut a s.heap h'→pD knd h' a (kW ks k)→Q b { s with heap:=h' }):wpAny (model prog w) A (setAddHashed a x (knd.hash k)) Q E s:=by
 obtain ⟨o,es,ep,t,ho,ex,hd,⟨k0,ek,pk⟩,hb,hf,tb⟩:=hS
 have sz:es.size=ks.length:=by rw [←Array.length_toList,ek.len,pk.length_eq]
 have el:=ek.elems
 have mono:∀{u:Unit→Shared→Prop} {s1:Shared} (g:Bool),u () s1→∀r:Sem Unit,(r=rule "set.scan.the-table-gave-way"∨r=pure ())→wpAny (model prog w) A r u E s1:=fun g hu r hr=>by
  rcases hr with rfl | rfl
  ·exact wpAny_rule hu
  ·exact wpAny_pure hu
 unfold setAddHashed setAddHashedIn
 refine wpAny_holding (wpAny_bind (wpAny_setState_of ho hd hf ?_))
 simp only [byScan_of hx hb el,if_true]
 unfold setAddByScan
 refine wpAny_bind (wpAny_bind (wpAny_rule (wpAny_bind (wpAny_setScan_of hk ho hd hf el ?_))))
 cases hr:es.toList.findIdx? (fun e=>knd.is k e.2) with
 | some j=>
  obtain ⟨hj,hp,_⟩:=List.findIdx?_eq_some_iff_getElem.mp hr
  have hm:k∈ks:=pk.mem_iff.mp (ek.mem (List.getElem_mem hj) hp)
  refine wpAny_pure (wpAny_pure (h _ s.heap (Heap.SameBut.refl a s.heap) ?_))
  rw [kW,if_pos hm]
  exact ⟨o,es,ep,t,ho,ex,hd,⟨k0,ek,pk⟩,hb,hf,tb⟩
 | none=>
  have hm:k∉ks:=fun z=>ek.none hr (pk.mem_iff.mpr z)
  have pn:=layNew_perm t es (knd.hash k) x
  have fn:=layNew_fits t es (knd.hash k) x
  have tn:=tb.layNew es (knd.hash k) x
  dsimp only
  generalize layNew t es (knd.hash k) x=L at pn fn tn ⊢
  obtain ⟨es1,t1,wd,gv⟩:=L
  dsimp only at pn fn tn ⊢
  rw [Array.toList_push] at pn
  obtain ⟨k1,e1,p1⟩:=(ek.push hk hx).perm pn
  have ak:kW ks k=ks++[k]:=by rw [kW,if_neg hm]
  have q1:∃ks',wz knd es1.toList ks'∧ks'.Perm (kW ks k):=⟨k1,e1,by rw [ak]; exact p1.trans (pk.append_right _)⟩
  have RN:es1.size=es.size + 1:=by rw [←Array.length_toList,pn.length_eq,List.length_append,Array.length_toList]; rfl
  have b1:es1.size < scanBound:=by omega
  refine wpAny_bind (mono gv ?_ _ (by cases gv <;> first | exact .inl rfl | exact .inr rfl))
  have tail:∀t2:SetTable,t2.fits es1.size=true→iu (bt w) t2→wpAny (model prog w) A (do
    storeSet a es1 t2
    if (!wd&&t2.tooFull)=true then do
      (match (PySem.relayAll t2 es1 (SetTable.grown es1.size)).2.2 with | true=>rule "set.scan.the-table-gave-way" | false=>pure ())
      storeSet a (PySem.relayAll t2 es1 (SetTable.grown es1.size)).1 (PySem.relayAll t2 es1 (SetTable.grown es1.size)).2.1
      pure (some true)
     else pure (some true)) (fun r s'=>wpAny (model prog w) A (match r with | some added=>pure added | none=>setAddHashedIn a x (knd.hash k) 99999) Q E s') E s:=fun t2 f2 tb2=>by
   obtain ⟨o1,g1,ex1,d1,S1⟩:=GX (knd:=knd) ho ex hd q1 b1 f2 tb2
   refine wpAny_bind (wpAny_storeSet_of ho hd ?_ (fits_of_scanBound b1))
   have uJ:=Heap.SameBut.update s.heap a (Obj.putSet es1 t2)
   split
   ·have pr:=relayAll_perm t2 es1 (SetTable.grown es1.size)
    have fr:=relayAll_fits t2 es1 (SetTable.grown es1.size)
    have tr:=tb2.relayAll es1 (SetTable.grown es1.size)
    generalize PySem.relayAll t2 es1 (SetTable.grown es1.size)=L2 at pr fr tr ⊢
    obtain ⟨es2,t3,gv2⟩:=L2
    dsimp only at pr fr tr ⊢
    obtain ⟨k2,e2,p2⟩:=q1
    obtain ⟨k3,e3,p3⟩:=e2.perm pr
    have sz2:es2.size=es1.size:=by rw [←Array.length_toList,pr.length_eq,Array.length_toList]
    have b2:es2.size < scanBound:=by omega
    refine wpAny_bind (mono gv2 ?_ _ (by cases gv2 <;> first | exact .inl rfl | exact .inr rfl))
    refine wpAny_bind (wpAny_storeSet_of g1 d1 ?_ (fits_of_scanBound b2))
    obtain ⟨_,_,_,_,S2⟩:=GX (knd:=knd) g1 ex1 d1 ⟨k3,e3,p3.trans p2⟩ b2 fr tr
    exact wpAny_pure (wpAny_pure (h _ _ (uJ.trans (Heap.SameBut.update ..)) S2))
   ·exact wpAny_pure (wpAny_pure (h _ _ uJ S1))
  split
  ·refine wpAny_bind ?_
   rw [hashByValue_scannable 8 hx]
   refine wpAny_pure ?_
   by_cases hv:plainKind x=true
   ·simp only [hv,if_true]
    exact tail t1 fn tn
   ·simp only [hv,Bool.false_eq_true,if_false]
    exact tail _ (SetTable.fits_plain_off fn) (tn.plain false)
  ·refine wpAny_bind (wpAny_pure ?_)
   simp only [if_true]
   exact tail t1 fn tn
end
end L2
namespace L2
open PySem PySem.Spec PySem.W
section
variable {T:Type} [DecidableEq T]
noncomputable def dedup (ks:List T):List T:=ks.foldl kW []
theorem Es (ks:List T) (k:T):dedup (ks++[k])=kW (dedup ks) k:=by simp [dedup,List.foldl_append]
theorem Ly {ks:List T} {k x:T}:x∈kW ks k ↔ x∈ks∨x=k:=by
 unfold kW
 split
 ·rename_i h
  exact ⟨.inl,fun z=>z.elim id fun e=>e ▸ h⟩
 ·simp
theorem mX {x:T}:∀(ks as:List T),x∈ks.foldl kW as ↔ x∈as∨x∈ks
 | [],as=>by simp
 | k::ks,as=>by rw [List.foldl_cons,mX,Ly,List.mem_cons,or_assoc]
theorem Ju {ks:List T} {x:T}:x∈dedup ks ↔ x∈ks:=by
 rw [dedup,mX]
 simp
theorem Et {ks:List T} {k:T} (h:ks.Nodup):(kW ks k).Nodup:=by
 unfold kW
 split
 ·exact h
 ·rename_i hk
  exact List.nodup_append.mpr ⟨h,by simp,fun a ha b hb=>by rw [List.mem_singleton] at hb; rintro rfl; exact hk (hb ▸ ha)⟩
theorem jU:∀(ks as:List T),as.Nodup→(ks.foldl kW as).Nodup
 | [],_,h=>h
 | k::ks,_,h=>jU ks _ (Et h)
theorem Az (ks:List T):(dedup ks).Nodup:=jU ks [] .nil
theorem Lz (ks:List T) (k:T):(kW ks k).length≤ks.length + 1:=by
 unfold kW
 split <;> simp
theorem mY:∀(ks as:List T),(ks.foldl kW as).length≤as.length + ks.length
 | [],_=>by simp
 | k::ks,as=>by
  have h1:=mY ks (kW as k)
  have h2:=Lz as k
  simp only [List.foldl_cons,List.length_cons]
  omega
theorem Jv (ks:List T):(dedup ks).length≤ks.length:=by simpa [dedup] using mY ks []
end
section
variable {prog:Program} {w:World} {T:Type} [DecidableEq T] {knd:PySem.KeyKind prog w T} {A:Around} {E:Value→Shared→Prop} {s:Shared}
theorem pD.at {h h':Heap} {a:Addr} {ks:List T} (H:pD knd h a ks) (e:∀o,h.get? a=some o→h'.get? a=some o):pD knd h' a ks:=
 let ⟨o,es,ep,t,ho,r⟩:=H
 ⟨o,es,ep,t,e o ho,r⟩
theorem pD.lt {h:Heap} {a:Addr} {ks:List T} (H:pD knd h a ks):a < h.objs.size:=let ⟨_,_,_,_,ho,_⟩:=H; Heap.lt_size ho
theorem pD.ty {a:Addr} {ks:List T} (H:pD knd s.heap a ks):s.TypeIs (.ref a) "set":=let ⟨o,_,_,_,ho,ex,_⟩:=H; ⟨o,ho,ex.1⟩
end
end L2
namespace L2
open PySem PySem.Spec PySem.W
section
variable {prog:Program} {w:World} {T:Type} [DecidableEq T] {knd:PySem.KeyKind prog w T} {A:Around} {E:Value→Shared→Prop} {s:Shared}
noncomputable def tB (w:World):Obj:={ cls:=.type "set",dict:=none,data:=.set #[] 0 (.fresh 0 0 (bt w)) }
theorem Uk {h:Heap} {a:Addr} (g:h.get? a=some (tB w)):pD knd h a []:=⟨_,#[],0,_,g,⟨rfl,rfl,rfl⟩,rfl,⟨[],.nil,.refl _⟩,by decide,rfl,iu.fresh _⟩
end
end L2
namespace L2
open PySem PySem.Spec PySem.W
theorem Ba:Manifest.owners.lookup (String.ofList "rotareti_tes".toList.reverse)=some Manifest.sig_set_iterator:=by kernel_rfl
theorem fO:Slot "set_iterator" "__next__" "set_iterator.__next__":=.of (owner:="set_iterator") (n:="__next__") (by rw [typeLookup_type,builtinLookup_eq_fast]; kernel_rfl) (by decide +kernel) (by decide +kernel) (by decide +kernel) (by first | exact .inl (by decide +kernel) | exact .inr (by decide +kernel)) (by rw [isSubtype_type]; kernel_rfl)
theorem GZ:Slot "set_iterator" "__iter__" "set_iterator.__iter__":=.of (owner:="set_iterator") (n:="__iter__") (by rw [typeLookup_type,builtinLookup_eq_fast]; kernel_rfl) (by decide +kernel) (by decide +kernel) (by decide +kernel) (by first | exact .inl (by decide +kernel) | exact .inr (by decide +kernel)) (by rw [isSubtype_type]; kernel_rfl)
theorem nR:entryFor table "set_iterator.__next__"=some Builtin.«set_iterator.__next__»:=entryFor_of_tree (by kernel_rfl)
theorem Jw:entryFor table "set_iterator.__iter__"=some Builtin.«dict_keyiterator.__iter__»:=entryFor_alias (id':="dict_keyiterator.__iter__") (by kernel_rfl) rfl (by decide +kernel) (by kernel_rfl)
theorem Eu:entryFor table "set.__iter__"=some Builtin.«frozenset.__iter__»:=entryFor_alias (id':="frozenset.__iter__") (by kernel_rfl) rfl (by decide +kernel) (by kernel_rfl)
theorem nU (a:Value):argsOk "set_iterator.__next__" ⟨[a],[]⟩:=by
 unfold argsOk; rw [signature?_of (id:="set_iterator.__next__") (n:="__txen__".toList) (o:="rotareti_tes".toList) (by kernel_rfl) Ba]; kernel_rfl
theorem Jx (a:Value):argsOk "set_iterator.__iter__" ⟨[a],[]⟩:=by
 unfold argsOk; rw [signature?_of (id:="set_iterator.__iter__") (n:="__reti__".toList) (o:="rotareti_tes".toList) (by kernel_rfl) Ba]; kernel_rfl
end L2
namespace L2
open PySem PySem.Spec PySem.W
section
variable {prog:Program} {w:World} {A:Around} {E:Value→Shared→Prop} {s:Shared} {it S:Addr} {es:Array (Int×Value)} {ep i n:Nat} {t:SetTable} {first:Value}
noncomputable def mZ (b:Bool) (h:Heap) (a:Addr) (es:Array (Int×Value)) (ep:Nat) (t:SetTable):Prop:=∃o,h.get? a=some o∧o.ExactSet∧o.data=.set es ep t∧t.fits es.size=true∧iu b t
theorem mZ.at {b:Bool} {h h':Heap} {a:Addr} (H:mZ b h a es ep t) (e:∀o,h.get? a=some o→h'.get? a=some o):mZ b h' a es ep t:=let ⟨o,ho,r⟩:=H; ⟨o,e o ho,r⟩
noncomputable def xG (h:Heap) (it S:Addr) (first:Value) (i n ep:Nat):Prop:=∃o,h.get? it=some o∧o.cls=.type "set_iterator"∧o.data=.fields #[first,rawInt i,.ref S,rawInt n,rawInt ep]
theorem xG.at {h h':Heap} (H:xG h it S first i n ep) (e:∀o,h.get? it=some o→h'.get? it=some o):xG h' it S first i n ep:=let ⟨o,ho,r⟩:=H; ⟨o,e o ho,r⟩
theorem xG.ty (H:xG s.heap it S first i n ep):s.TypeIs (.ref it) "set_iterator":=let ⟨o,ho,c,_⟩:=H; ⟨o,ho,c⟩
theorem xG.set {h:Heap} {j:Nat} {x:Value} {vs:Array Value} {o:Obj} (ho:h.get? it=some o) (hc:o.cls=.type "set_iterator") (hd:o.data=.fields vs):
  ∃o',(h.update it (Obj.mapFields (·.setIfInBounds j x))).get? it=some o'∧o'.cls=.type "set_iterator"∧o'.data=.fields (vs.setIfInBounds j x):=
 ⟨_,Heap.get?_update_self _ ho (Obj.isFreed_of_fields (Obj.data_mapFields hd _)),(Obj.cls_mapFields ..).trans hc,by rw [Obj.data_mapFields hd]⟩
theorem yS {Q:Value→Shared→Prop} (hit:xG s.heap it S first i n ep) (h:Q (.ref it) s):wpAny (model prog w) A (pyIter (.ref it)) Q E s:=by
 refine wpAny_pyIter_slot hit.ty GZ (wpAny_call_entry GZ hit.ty Jw (show wpAny _ _ (ret (.ref it)) _ _ s from ?_) (Jx _))
 exact wpAny_pure ⟨_,rfl,"set_iterator",_,hit.ty,fO.lookup,h⟩
theorem G3 {Q:Option Value→Shared→Prop} {slot:Nat} {R:Option (Value×Nat)} (hit:xG s.heap it S (rawInt slot) i n ep) (hs:mZ (bt w) s.heap S es ep t) (hn:n=es.size) (ne:S≠it)
  (nx:∀{B:Around} {E':Value→Shared→Prop} {C:Option (Value×Nat)→Shared→Prop},C R s→wpAny (model prog w) B (setNext S slot i ep) C E' s) {x:Value} {nxt:Nat} (hR:R=some (x,nxt))
  (h:∀h',xG h' it S (rawInt nxt) (i + 1) n ep→Heap.SameBut it s.heap h'→Q (some x) { s with heap:=h' }):wpAny (model prog w) A (pyNext (.ref it)) Q E s:=by
 obtain ⟨o,ho,hc,hd⟩:=id hit
 obtain ⟨os,hos,exs,hds,hf,tb⟩:=id hs
 unfold pyNext
 refine wpAny_bind (wpAny_attempt (wpAny_callSpecial?_slot (name:=Str.ofString "__next__") hit.ty fO (wpAny_call_entry fO hit.ty nR ?_ (nU _))))
 unfold Builtin.«set_iterator.__next__»
 refine wpAny_bind (wpAny_pure (wpAny_bind (wpAny_fieldsOf ho hd ?_)))
 dsimp only [rawInt]
 refine wpAny_bind (wpAny_setEntries_of hos hds hf ?_)
 subst hn; subst hR
 rw [if_neg (by simp)]
 refine wpAny_bind (nx ?_)
 dsimp only
 refine wpAny_bind (wpAny_setField ho hd (by simp) ?_)
 obtain ⟨o1,g1,c1,d1⟩:=xG.set (j:=0) (x:=.int nxt 0) ho hc hd
 refine wpAny_bind (wpAny_setField g1 d1 (by simp) ?_)
 obtain ⟨o2,g2,c2,d2⟩:=xG.set (j:=1) (x:=.int (i + 1) 0) g1 c1 d1
 refine wpAny_pure ⟨_,rfl,wpAny_pure (h _ ⟨o2,g2,c2,?_⟩ ((Heap.SameBut.update ..).trans (Heap.SameBut.update ..)))⟩
 rw [d2]
 simp [rawInt]
theorem G4 {Q:Option Value→Shared→Prop} {s':Shared} (hh:A.handled=none) (h:∀h',(∀b o,s'.heap.get? b=some o→h'.get? b=some o)→Q none { s' with heap:=h' }):
  wpAny (model prog w) A.in1 (do let e ←newExc (.type "StopIteration") []; (raiseNew e:Sem Fin)) (fun fin s1=>∃v,fin=Fin.done (Flow.ret v)∧wpAny (model prog w) A (pure (some v)) Q E s1)
   (fun e s1=>wpAny (model prog w) A (do if (←isInstance e (Value.type "StopIteration"))=true then pure none else throw e) Q E s1) s':=by
 refine wpAny_bind ?_
 simp only [newExc,newTuple]
 refine wpAny_bind (wpAny_newObj_type ?_ (by size_fits))
 refine wpAny_bind (m:=firstArgMember _ _) (wpAny_of_eq (a:=Value.none) (by first | rfl | (simp only [firstArgMember]; rfl)) ?_)
 refine wpAny_newObj_type ?_ (by size_fits); simp only [raiseNew]; refine wpAny_bind (wpAny_handled ?_)
 rw [show A.in1.handled=none from hh]; refine wpAny_bind (wpAny_pure (wpAny_throw ?_))
 refine wpAny_bind (wpAny_isInstance (T:="StopIteration") (b:=true) ⟨_,Heap.get?_push_size _ rfl,rfl⟩ isSubtype_stop ?_)
 exact wpAny_pure (h _ fun b o e=>Heap.get?_push_of_some _ (Heap.get?_push_of_some _ e))
theorem LC {Q:Option Value→Shared→Prop} {slot:Nat} (hh:A.handled=none) (hit:xG s.heap it S (rawInt slot) i n ep) (hs:mZ (bt w) s.heap S es ep t) (hn:n=es.size)
  (nx:∀{B:Around} {E':Value→Shared→Prop} {C:Option (Value×Nat)→Shared→Prop},C none s→wpAny (model prog w) B (setNext S slot i ep) C E' s)
  (h:∀h',(∀b o,b≠it→s.heap.get? b=some o→h'.get? b=some o)→Q none { s with heap:=h' }):wpAny (model prog w) A (pyNext (.ref it)) Q E s:=by
 obtain ⟨o,ho,hc,hd⟩:=id hit
 obtain ⟨os,hos,exs,hds,hf,tb⟩:=id hs
 unfold pyNext
 refine wpAny_bind (wpAny_attempt (wpAny_callSpecial?_slot (name:=Str.ofString "__next__") hit.ty fO (wpAny_call_entry fO hit.ty nR ?_ (nU _))))
 unfold Builtin.«set_iterator.__next__»
 refine wpAny_bind (wpAny_pure (wpAny_bind (wpAny_fieldsOf ho hd ?_)))
 dsimp only [rawInt]
 refine wpAny_bind (wpAny_setEntries_of hos hds hf ?_)
 subst hn
 rw [if_neg (by simp)]
 refine wpAny_bind (nx ?_)
 dsimp only
 refine wpAny_bind (wpAny_setField ho hd (by simp) ?_)
 exact G4 hh fun h' kk=>h h' fun b o hb e=>kk b o (((Heap.SameBut.update ..).2 b hb).trans e)
end
end L2
namespace L2
open PySem PySem.Spec PySem.W
section
variable {prog:Program} {w:World} {A:Around} {E:Value→Shared→Prop} {s:Shared} {it S:Addr} {es:Array (Int×Value)} {ep i n:Nat} {t:SetTable} {first:Value}
theorem tQ {Q:Bool→Shared→Prop} (h:Q (!bt w) s):wpAny (model prog w) A setsByText Q E s:=by
 unfold setsByText
 refine wpAny_bind (wpAny_askSetting (wpAny_pure ?_))
 have h':Q (w.params.followText "set-order") s:=by simpa [bt] using h
 exact h'
theorem pF {α:Type}:∀{l:List α} {j:Nat} (h:j < l.length),(l[j]::l.eraseIdx j).Perm l
 | [],j,h=>by cases h
 | a::l,0,h=>.refl _
 | a::l,j + 1,h=>by
  have:=pF (l:=l) (j:=j) (by simpa using h)
  simp only [List.getElem_cons_succ,List.eraseIdx_cons_succ]
  exact (List.Perm.swap ..).trans (this.cons a)
theorem xH {C:Option (Value×Nat)→Shared→Prop} {slot:Nat} (hs:mZ (bt w) s.heap S es ep t) (hb:bt w=true) (nd:(!t.plain&&decide (es.size > 1))=false)
  (h:C (match es[SetTable.below t.place slot]?,t.place[SetTable.below t.place slot]? with | some (_,x),some j=>some (x,j + 1) | _,_=>none) s):wpAny (model prog w) A (setNext S slot i ep) C E s:=by
 obtain ⟨o,ho,ex,hd,hf,tb⟩:=hs
 unfold setNext
 refine wpAny_bind (wpAny_setState_of ho hd hf ?_)
 refine wpAny_bind (tQ ?_)
 rw [hb]
 simp only [Bool.not_true,Bool.false_eq_true,if_false]
 refine wpAny_ite_split (fun z=>?_) (fun _=>?_)
 ·have z':(!t.plain&&decide (es.size > 1))=true:=z
  rw [nd] at z'
  cases z'
 refine wpAny_bind (show wpAny _ _ (if (!t.led&&!es.isEmpty)=true then _ else _) _ _ _ from ?_)
 rw [tb.led,hb]
 simp only [Bool.not_true,Bool.false_and,Bool.false_eq_true,if_false]
 exact wpAny_pure (wpAny_pure h)
theorem xJ {C:Option (Value×Nat)→Shared→Prop} {slot:Nat} (hs:mZ (bt w) s.heap S es ep t) (hb:bt w=false)
  (h:C (((pickOrder (w.params.setOrder S ep) es)[i]?).map fun e=>(e.2,slot)) s):wpAny (model prog w) A (setNext S slot i ep) C E s:=by
 obtain ⟨o,ho,ex,hd,hf,tb⟩:=hs
 unfold setNext
 refine wpAny_bind (wpAny_setState_of ho hd hf ?_)
 refine wpAny_bind (tQ ?_)
 rw [hb]
 simp only [Bool.not_false,if_true,bne_self_eq_false,Bool.false_eq_true,if_false]
 refine wpAny_bind ?_
 unfold setWalk
 refine wpAny_bind (wpAny_setState_of ho hd hf ?_)
 refine wpAny_bind (tQ ?_)
 rw [hb]
 simp only [Bool.not_false,if_true]
 refine wpAny_bind (wpAny_askSetting (wpAny_pure ?_))
 exact wpAny_pure h
theorem G5 {α:Type} (f:Nat→Nat):∀(m k:Nat) (left:List α) (out:Array α),left.length=m→(pickOrder.go f m k left out).toList.Perm (out.toList++left)
 | 0,k,left,out,h=>by
  unfold pickOrder.go
  rw [List.length_eq_zero_iff.mp h]
  simp
 | m + 1,k,left,out,h=>by
  unfold pickOrder.go
  have hl:f k % left.length < left.length:=Nat.mod_lt _ (by omega)
  rw [List.getElem?_eq_getElem hl]
  dsimp only
  refine (G5 f m (k + 1) _ _ (by rw [List.length_eraseIdx]; simp [hl]; omega)).trans ?_
  rw [Array.toList_push,List.append_assoc]
  refine List.Perm.append_left _ ?_
  exact pF hl
theorem rB {α:Type} (f:Nat→Nat) (xs:Array α):(pickOrder f xs).toList.Perm xs.toList:=by
 have:=G5 f xs.size 0 xs.toList #[] (by simp)
 simpa [pickOrder] using this
theorem LK {src:Source} {m:Nat} {Q:Nat→Shared→Prop} (hm:m≠0) (h:∀j d,j < m→Q j { s with drawn:=d }):wpAny (model prog w) A (choose src m) Q E s:=fun Γ p _=>⟨hm,h _ _ (Nat.mod_lt _ (Nat.pos_of_ne_zero hm))⟩
theorem Bb {α:Type}:∀(m:Nat) (xs:List α) (s:Shared) (Q:List α→Shared→Prop),xs.length=m→(∀ys d,ys.Perm xs→Q ys { s with drawn:=d })→wpAny (model prog w) A (drawOrder m xs) Q E s
 | 0,xs,s,Q,hl,h=>by
  unfold drawOrder
  rw [List.length_eq_zero_iff.mp hl] at h
  exact wpAny_pure (h [] s.drawn (.refl _))
 | m + 1,[],s,Q,hl,h=>by cases hl
 | m + 1,x::xs,s,Q,hl,h=>by
  unfold drawOrder
  refine wpAny_bind (LK (by simp) fun j d hj=>?_)
  rw [List.getElem?_eq_getElem hj]
  dsimp only
  refine wpAny_bind (Bb m _ _ _ (by rw [List.length_eraseIdx,if_pos hj]; simpa using hl) fun ys d' hp=>?_)
  exact wpAny_pure (h _ d' ((hp.cons _).trans (pF hj)))
end
end L2
namespace L2
open PySem PySem.Spec PySem.W
section
variable {prog:Program} {w:World} {A:Around} {E:Value→Shared→Prop} {s:Shared} {it S pl:Addr} {es:Array (Int×Value)} {ep i n:Nat} {t:SetTable} {ps:List Nat}
noncomputable def VG (h:Heap) (pl:Addr) (ps:List Nat):Prop:=∃o c,h.get? pl=some o∧o.data=.seq (ps.map fun k:Nat=>rawInt k).toArray c
theorem VG.at {h h':Heap} (H:VG h pl ps) (e:∀o,h.get? pl=some o→h'.get? pl=some o):VG h' pl ps:=let ⟨o,c,ho,r⟩:=H; ⟨o,c,e o ho,r⟩
theorem Qk {Q:Option Value→Shared→Prop} {k:Nat} {e:Int×Value} (hit:xG s.heap it S (.ref pl) i n ep) (hs:mZ (bt w) s.heap S es ep t) (hp:VG s.heap pl ps) (hn:n=es.size) (hk:ps[i]?=some k) (he:es[k]?=some e)
  (h:∀h',xG h' it S (.ref pl) (i + 1) n ep→Heap.SameBut it s.heap h'→Q (some e.2) { s with heap:=h' }):wpAny (model prog w) A (pyNext (.ref it)) Q E s:=by
 obtain ⟨o,ho,hc,hd⟩:=id hit
 obtain ⟨os,hos,exs,hds,hf,tb⟩:=id hs
 obtain ⟨op,cp,hop,hdp⟩:=hp
 unfold pyNext
 refine wpAny_bind (wpAny_attempt (wpAny_callSpecial?_slot (name:=Str.ofString "__next__") hit.ty fO (wpAny_call_entry fO hit.ty nR ?_ (nU _))))
 unfold Builtin.«set_iterator.__next__»
 refine wpAny_bind (wpAny_pure (wpAny_bind (wpAny_fieldsOf ho hd ?_)))
 dsimp only [rawInt]
 refine wpAny_bind (wpAny_setEntries_of hos hds hf ?_)
 subst hn
 rw [if_neg (by simp)]
 refine wpAny_bind (wpAny_seqItems hop hdp ?_)
 dsimp only
 rw [show ((ps.map fun k:Nat=>rawInt k).toArray)[((i:Int)).toNat]?=some (.int (k:Int) 0) by simp [hk,rawInt]]
 dsimp only
 refine wpAny_bind ?_
 unfold setNextDrawn
 refine wpAny_bind (wpAny_setState_of hos hds hf ?_)
 simp only [Int.toNat_natCast,bne_self_eq_false,Bool.false_eq_true,if_false,he]
 refine wpAny_pure (wpAny_bind (wpAny_setField ho hd (by simp) ?_))
 obtain ⟨o1,g1,c1,d1⟩:=xG.set (j:=1) (x:=.int (i + 1) 0) ho hc hd
 refine wpAny_pure ⟨_,rfl,wpAny_pure (h _ ⟨o1,g1,c1,?_⟩ (Heap.SameBut.update ..))⟩
 rw [d1]
 simp [rawInt]
theorem Ul {Q:Option Value→Shared→Prop} (hh:A.handled=none) (hit:xG s.heap it S (.ref pl) i n ep) (hs:mZ (bt w) s.heap S es ep t) (hp:VG s.heap pl ps) (hn:n=es.size) (hk:ps.length≤i)
  (h:∀h',(∀b o,b≠it→s.heap.get? b=some o→h'.get? b=some o)→Q none { s with heap:=h' }):wpAny (model prog w) A (pyNext (.ref it)) Q E s:=by
 obtain ⟨o,ho,hc,hd⟩:=id hit
 obtain ⟨os,hos,exs,hds,hf,tb⟩:=id hs
 obtain ⟨op,cp,hop,hdp⟩:=hp
 unfold pyNext
 refine wpAny_bind (wpAny_attempt (wpAny_callSpecial?_slot (name:=Str.ofString "__next__") hit.ty fO (wpAny_call_entry fO hit.ty nR ?_ (nU _))))
 unfold Builtin.«set_iterator.__next__»
 refine wpAny_bind (wpAny_pure (wpAny_bind (wpAny_fieldsOf ho hd ?_)))
 dsimp only [rawInt]
 refine wpAny_bind (wpAny_setEntries_of hos hds hf ?_)
 subst hn
 rw [if_neg (by simp)]
 refine wpAny_bind (wpAny_seqItems hop hdp ?_)
 dsimp only
 rw [show ((ps.map fun k:Nat=>rawInt k).toArray)[((i:Int)).toNat]?=none by simp [hk]]
 dsimp only
 refine wpAny_bind (wpAny_setField ho hd (by simp) ?_)
 obtain ⟨o1,g1,c1,d1⟩:=xG.set (j:=0) (x:=.int 0 0) ho hc hd
 refine wpAny_bind (wpAny_setField g1 d1 (by simp) ?_)
 exact G4 hh fun h' kk=>h h' fun b o hb e=>kk b o ((((Heap.SameBut.update ..).trans (Heap.SameBut.update ..)).2 b hb).trans e)
theorem Jy (hh:A.handled=none) (ne:S≠it) (hb:bt w=true) (nd:(!t.plain&&decide (es.size > 1))=false) (hz:t.place.size=es.size) (rs:t.place.toList.Pairwise (· < ·)):
  Walks prog w A it [it,S] [it] es.size (fun i v=>(es.toList.map (·.2))[i]?=some v) (fun i h=>xG h it S (rawInt (if i=0 then 0 else t.place.getD (i - 1) 0 + 1:Nat)) i es.size ep∧mZ (bt w) h S es ep t) where
 sub:=fun b hb=>by simp at hb; simp [hb]
 frame:=fun _ _ _ st hk=>⟨st.1.at fun o e=>hk it (by simp) o e,st.2.at fun o e=>hk S (by simp) o e⟩
 item:=fun i s Q E hi st hQ=>by
  have hp:i < t.place.size:=by omega
  have bl:SetTable.below t.place (if i=0 then 0 else t.place.getD (i - 1) 0 + 1)=i:=by
   by_cases z:i=0
   ·subst z
    exact GR rs
   ·rw [if_neg z]
    have h1:i - 1 < t.place.size:=by omega
    have:=uH rs h1
    rw [Array.getD_eq_getD_getElem?,Array.getElem?_eq_getElem h1,Option.getD_some,this]
    omega
  refine G3 (R:=some (es[i].2,t.place[i] + 1)) st.1 st.2 rfl ne (fun c=>xH st.2 hb nd ?_) rfl fun h' hit' same=>hQ _ h' s.toks (by simp [hi]) ⟨?_,st.2.at fun o e=>(same.2 S ne).trans e⟩ fun b o hb e=>(same.2 b fun z=>hb (by simp [z])).trans e
  ·rw [bl,Array.getElem?_eq_getElem hi,Array.getElem?_eq_getElem hp]
   exact c
  ·have e1:(if i + 1=0 then 0 else t.place.getD (i + 1 - 1) 0 + 1)=t.place[i] + 1:=by
    rw [if_neg (by omega),Nat.add_sub_cancel,Array.getD_eq_getD_getElem?,Array.getElem?_eq_getElem hp,Option.getD_some]
   rw [e1]
   exact hit'
 done:=fun s Q E st hQ=>by
  have bl:SetTable.below t.place (if es.size=0 then 0 else t.place.getD (es.size - 1) 0 + 1)=es.size:=by
   by_cases z:es.size=0
   ·rw [if_pos z,z]
    exact GR rs
   ·rw [if_neg z]
    have h1:es.size - 1 < t.place.size:=by omega
    have:=uH rs h1
    rw [Array.getD_eq_getD_getElem?,Array.getElem?_eq_getElem h1,Option.getD_some,this]
    omega
  refine LC hh st.1 st.2 rfl (fun c=>xH st.2 hb nd ?_) fun h' kk=>hQ h' s.toks fun b o hb e=>kk b o (fun z=>hb (by simp [z])) e
  rw [bl,Array.getElem?_eq_none (Nat.le_refl _)]
  exact c
 self:=fun _ _ _ _ st hQ=>yS st.1 hQ
theorem Jz (hh:A.handled=none) (ne:S≠it) (hb:bt w=false):
  Walks prog w A it [it,S] [it] es.size (fun i v=>((pickOrder (w.params.setOrder S ep) es).toList.map (·.2))[i]?=some v) (fun i h=>xG h it S (rawInt (0:Nat)) i es.size ep∧mZ (bt w) h S es ep t) where
 sub:=fun b hb=>by simp at hb; simp [hb]
 frame:=fun _ _ _ st hk=>⟨st.1.at fun o e=>hk it (by simp) o e,st.2.at fun o e=>hk S (by simp) o e⟩
 item:=fun i s Q E hi st hQ=>by
  have hl:(pickOrder (w.params.setOrder S ep) es).size=es.size:=by rw [←Array.length_toList,(rB _ es).length_eq,Array.length_toList]
  have hp:i < (pickOrder (w.params.setOrder S ep) es).size:=by omega
  refine G3 (R:=some ((pickOrder (w.params.setOrder S ep) es)[i].2,0)) st.1 st.2 rfl ne (fun c=>xJ st.2 hb ?_) rfl fun h' hit' same=>hQ _ h' s.toks (by simp [hp]) ⟨hit',st.2.at fun o e=>(same.2 S ne).trans e⟩ fun b o hb e=>(same.2 b fun z=>hb (by simp [z])).trans e
  rw [Array.getElem?_eq_getElem hp]
  exact c
 done:=fun s Q E st hQ=>by
  have hl:(pickOrder (w.params.setOrder S ep) es).size=es.size:=by rw [←Array.length_toList,(rB _ es).length_eq,Array.length_toList]
  refine LC hh st.1 st.2 rfl (fun c=>xJ st.2 hb ?_) fun h' kk=>hQ h' s.toks fun b o hb e=>kk b o (fun z=>hb (by simp [z])) e
  rw [Array.getElem?_eq_none (by omega)]
  exact c
 self:=fun _ _ _ _ st hQ=>yS st.1 hQ
theorem Ew (hh:A.handled=none) (ne:S≠it) (np:pl≠it) (pp:ps.Perm (List.range es.size)):
  Walks prog w A it [it,S,pl] [it] es.size (fun i v=>(ps.map fun k=>(es.getD k (0,.none)).2)[i]?=some v) (fun i h=>xG h it S (.ref pl) i es.size ep∧mZ (bt w) h S es ep t∧VG h pl ps) where
 sub:=fun b hb=>by simp at hb; simp [hb]
 frame:=fun _ _ _ st hk=>⟨st.1.at fun o e=>hk it (by simp) o e,st.2.1.at fun o e=>hk S (by simp) o e,st.2.2.at fun o e=>hk pl (by simp) o e⟩
 item:=fun i s Q E hi st hQ=>by
  have hl:ps.length=es.size:=by rw [pp.length_eq,List.length_range]
  have hp:i < ps.length:=by omega
  have hk:ps[i] < es.size:=List.mem_range.mp (pp.mem_iff.mp (List.getElem_mem hp))
  refine Qk (k:=ps[i]) (e:=es[ps[i]]) st.1 st.2.1 st.2.2 rfl (List.getElem?_eq_getElem hp) (Array.getElem?_eq_getElem hk) fun h' hit' same=>hQ _ h' s.toks ?_ ⟨hit',st.2.1.at fun o e=>(same.2 S ne).trans e,st.2.2.at fun o e=>(same.2 pl np).trans e⟩ fun b o hb e=>(same.2 b fun z=>hb (by simp [z])).trans e
  rw [List.getElem?_map,List.getElem?_eq_getElem hp,Option.map_some,Array.getD_eq_getD_getElem?,Array.getElem?_eq_getElem hk]
  rfl
 done:=fun s Q E st hQ=>by
  have hl:ps.length=es.size:=by rw [pp.length_eq,List.length_range]
  exact Ul hh st.1 st.2.1 st.2.2 rfl (by omega) fun h' kk=>hQ h' s.toks fun b o hb e=>kk b o (fun z=>hb (by simp [z])) e
 self:=fun _ _ _ _ st hQ=>yS st.1 hQ
end
end L2
namespace L2
open PySem PySem.Spec PySem.W
section
variable {prog:Program} {w:World} {A:Around} {E:Value→Shared→Prop} {s:Shared} {S:Addr} {es:Array (Int×Value)} {ep:Nat} {t:SetTable}
theorem JB {Q:Bool→Shared→Prop} (hs:mZ (bt w) s.heap S es ep t) (h:Q (bt w&&(!t.plain&&decide (es.size > 1))) s):wpAny (model prog w) A (setDrawn S) Q E s:=by
 obtain ⟨os,hos,exs,hds,hf,tb⟩:=id hs
 unfold setDrawn
 refine wpAny_bind (wpAny_setState_of hos hds hf ?_)
 refine wpAny_bind (tQ (wpAny_pure ?_))
 rw [Bool.not_not]
 exact h
theorem LQ {Q:Value→Shared→Prop} (hh:A.handled=none) (hs:mZ (bt w) s.heap S es ep t) (hb:es.size < scanBound)
  (h:∀(I:Addr) (h1:Heap) (d:Drawn) (fp:List Addr) (out:List Value) (St:Nat→Heap→Prop),Walks prog w A I fp [I] es.size (fun i v=>out[i]?=some v) St→St 0 h1→out.Perm (es.toList.map (·.2))→(∀b o,s.heap.get? b=some o→h1.get? b=some o)→s.heap.objs.size≤I→
   (∀b∈fp,b=S∨s.heap.objs.size≤b)→Q (.ref I) { s with heap:=h1,drawn:=d }):wpAny (model prog w) A (pyIter (.ref S)) Q E s:=by
 obtain ⟨os,hos,exs,hds,hf,tb⟩:=id hs
 have hT:s.TypeIs (.ref S) "set":=⟨os,hos,exs.1⟩
 have lt:S < s.heap.objs.size:=Heap.lt_size hos
 have hz:t.place.size=es.size:=by
  have:=hf
  simp only [SetTable.fits,Bool.and_eq_true,beq_iff_eq] at this
  exact this.1
 refine wpAny_pyIter_slot hT F.slot_set_iter (wpAny_call_entry F.slot_set_iter hT Eu ?_ (F.args_set_iter_1 _))
 unfold Builtin.«frozenset.__iter__» Builtin.Frozenset.slot0 Builtin.Frozenset.sizeOf
 refine wpAny_bind (wpAny_bind (wpAny_pure (wpAny_pure ?_)))
 refine wpAny_bind (wpAny_bind (wpAny_setEntries_of hos hds hf (wpAny_pure ?_)))
 refine wpAny_bind (JB hs ?_)
 by_cases hd:(bt w&&(!t.plain&&decide (es.size > 1)))=true
 ·rw [if_pos hd]
  refine wpAny_bind (Bb _ _ _ _ (List.length_range ..) fun ps d pp=>?_)
  have pl:ps.length=es.size:=by rw [pp.length_eq,List.length_range]
  unfold newTuple
  refine wpAny_bind (wpAny_newObj_type ?_ (show (List.map (fun i:Nat=>rawInt i) ps).toArray.size≤sizeLine by rw [List.size_toArray,List.length_map,pl,sizeLine_eq]; unfold scanBound at hb; omega))
  have g1:(s.heap.push { cls:=.type "tuple",data:=.seq (ps.map fun k:Nat=>rawInt k).toArray }).get? S=some os:=Heap.get?_push_of_some _ hos
  refine wpAny_bind (wpAny_setEpoch_of (s:={ s with heap:=s.heap.push _,drawn:=d }) g1 hds hf ?_)
  refine wpAny_bind ?_
  unfold newFields
  refine wpAny_newObj_type ?_
  refine wpAny_pure ⟨_,rfl,"set_iterator",_,⟨_,Heap.get?_push_size _ rfl,rfl⟩,fO.lookup,?_⟩
  have RN:(s.heap.push { cls:=.type "tuple",data:=.seq (ps.map fun k:Nat=>rawInt k).toArray }).objs.size=s.heap.objs.size + 1:=Heap.size_push ..
  refine h _ _ d [_,S,s.heap.objs.size] _ _ (Ew (ep:=ep) (t:=t) hh ?_ ?_ pp) ⟨⟨_,Heap.get?_push_size _ rfl,rfl,rfl⟩,⟨os,Heap.get?_push_of_some _ g1,exs,hds,hf,tb⟩,⟨_,0,Heap.get?_push_of_some _ (Heap.get?_push_size _ rfl),rfl⟩⟩ ?_ (fun b o e=>Heap.get?_push_of_some _ (Heap.get?_push_of_some _ e)) ?_ ?_
  ·rw [RN]
   exact Nat.ne_of_lt (Nat.lt_succ_of_lt lt)
  ·rw [RN]
   exact Nat.ne_of_lt (Nat.lt_succ_self _)
  ·have e2:(List.range es.size).map (fun k=>(es.getD k (0,Value.none)).2)=es.toList.map (·.2):=by
    refine List.ext_getElem (by simp) fun j h1 h2=>?_
    have hj:j < es.size:=by simpa using h1
    simp [Array.getD_eq_getD_getElem?,Array.getElem?_eq_getElem hj]
   rw [←e2]
   exact pp.map _
  ·rw [RN]
   exact Nat.le_succ _
  ·intro b hb'
   simp only [List.mem_cons,List.not_mem_nil,or_false] at hb'
   rcases hb' with rfl | rfl | rfl
   ·right
    rw [RN]
    exact Nat.le_succ _
   ·exact .inl rfl
   ·exact .inr (Nat.le_refl _)
 ·rw [if_neg hd]
  refine wpAny_bind (wpAny_pure ?_)
  refine wpAny_bind (wpAny_setEpoch_of hos hds hf ?_)
  refine wpAny_bind ?_
  unfold newFields
  refine wpAny_newObj_type ?_
  refine wpAny_pure ⟨_,rfl,"set_iterator",_,⟨_,Heap.get?_push_size _ rfl,rfl⟩,fO.lookup,?_⟩
  have W0:∀b,b∈[s.heap.objs.size,S]→b=S∨s.heap.objs.size≤b:=fun b hb'=>by
   simp only [List.mem_cons,List.not_mem_nil,or_false] at hb'
   rcases hb' with rfl | rfl
   ·exact .inr (Nat.le_refl _)
   ·exact .inl rfl
  cases hbt:bt w with
  | true=>
   rw [hbt] at hd
   have nd:(!t.plain&&decide (es.size > 1))=false:=by simpa using hd
   exact h _ _ s.drawn [_,S] _ _ (Jy (ep:=ep) hh (Nat.ne_of_lt lt) hbt nd hz tb.Zt) ⟨⟨_,Heap.get?_push_size _ rfl,rfl,rfl⟩,⟨os,Heap.get?_push_of_some _ hos,exs,hds,hf,tb⟩⟩ (.refl _) (fun b o e=>Heap.get?_push_of_some _ e) (Nat.le_refl _) W0
  | false=>
   exact h _ _ s.drawn [_,S] _ _ (Jz (ep:=ep) (t:=t) hh (Nat.ne_of_lt lt) hbt) ⟨⟨_,Heap.get?_push_size _ rfl,rfl,rfl⟩,⟨os,Heap.get?_push_of_some _ hos,exs,hds,hf,tb⟩⟩ ((rB _ es).map _) (fun b o e=>Heap.get?_push_of_some _ e) (Nat.le_refl _) W0
end
end L2
namespace L2
open PySem PySem.Spec PySem.W PyProof.Rows
section
variable {prog:Program} {w:World} {A:Around} {E:Value→Shared→Prop} {s:Shared} {S:Addr} {es:Array (Int×Value)} {ep:Nat} {t:SetTable}
theorem LR {Q:Bool→Shared→Prop} (hT:s.TypeIs (.ref S) "set") (h:Q false s):wpAny (model prog w) A (Builtin.List.listLengthHint (.ref S)) Q E s:=by
 unfold Builtin.List.listLengthHint
 refine wpAny_bind (wpAny_specialOf hT PySem.F.slot_set_len.lookup ?_)
 generalize hid:("set.__len__":String)=nm
 wp_delta
 rw [show splitId nm=some ("set","__len__") by subst hid; decide +kernel]
 subst hid
 refine wpAny_bind (wpAny_isInstance (T:="set") (b:=true) hT (by rw [isSubtype_type]; kernel_rfl) ?_)
 refine wpAny_ite_split (fun z=>absurd z (by decide)) fun _=>wpAny_ite_split (fun _=>?_) fun z=>absurd (by decide +kernel) z
 exact wpAny_bind (wpAny_typeOf hT (wpAny_pure h))
theorem JC {out:List Value} {acc:Array Value} (h:ItemsOf (fun i v=>out[i]?=some v) acc out.length):acc=out.toArray:=by
 refine Array.ext (by simpa using h.1) fun j h1 h2=>?_
 have this:out[j]?=some acc[j]:=h.2 j acc[j] (Array.getElem?_eq_getElem h1)
 have hj:j < out.length:=by simpa using h2
 rw [List.getElem?_eq_getElem hj] at this
 simpa using (Option.some.inj this).symm
theorem Ex {R:Result→Shared→Prop} (hh:A.handled=none) (hs:mZ (bt w) s.heap S es ep t) (hb:es.size < scanBound) {L:Addr} (ne:L≠S) {c0:Nat} (hL:s.heap.get? L=some { cls:=.type "list",data:=.seq #[] c0 }) (res:Value)
  (hR:∀(h':Heap) (d:Drawn) (tk:Nat) (us:List Value) (c':Nat),us.Perm (es.toList.map (·.2))→(∀b o,b≠L→s.heap.get? b=some o→h'.get? b=some o)→h'.get? L=some { cls:=.type "list",dict:=none,data:=.seq us.toArray c',slots:=#[] }→
   R (.ok (.ret res)) { s with heap:=h',drawn:=d,toks:=tk }):
  wpAny (model prog w) A.in1 (Builtin.List.listExtendWith (.ref L) (.ref S) res) (fun fin s'=>match fin with | .done f=>R (.ok f) s' | .again c'=>c'.quiet=true∧codeAny (model prog w) A c' R s') (fun e s'=>R (.error e) s') s:=by
 obtain ⟨os,hos,exs,hds,hf,tb⟩:=id hs
 have hT:s.TypeIs (.ref S) "set":=⟨os,hos,exs.1⟩
 have ltL:L < s.heap.objs.size:=Heap.lt_size hL
 unfold Builtin.List.listExtendWith
 refine wpAny_bind (wpAny_typeOf hT ?_)
 rw [show (Builtin.List.listSameRef (.ref L) (.ref S) || Value.type "set"==Value.type "list" || Value.type "set"==Value.type "tuple")=false by
  rw [show Builtin.List.listSameRef (.ref L) (.ref S)=false by simp [Builtin.List.listSameRef,ne]]
  decide]
 simp only [Bool.false_eq_true,if_false]
 refine wpAny_bind (LQ (A:=A.in1) hh hs hb fun I h1 d fp out St W st pm kp geI okf=>?_)
 have lo:out.length=es.size:=by rw [pm.length_eq,List.length_map,Array.length_toList]
 have bG:L∉fp:=fun z=>(okf L z).elim ne fun z'=>absurd ltL (Nat.not_lt.mpr z')
 have run:∀(h2:Heap) (c1 tk:Nat),St 0 h2→(∀b o,b≠L→s.heap.get? b=some o→h2.get? b=some o)→h2.get? L=some { cls:=.type "list",data:=.seq #[] c1 }→
   codeAny (model prog w) A (.builtin "list.extend.loop" ⟨[.ref L,.ref I,res],[]⟩) R { s with heap:=h2,drawn:=d,toks:=tk }:=fun h2 c1 tk st2 k2 g2=>by
  refine codeAny_extend_loopS W.toS (fits_of_scanBound hb) L bG res es.size 0 _ #[] c1 rfl (Nat.zero_le _) st2 g2 (ItemsOf.nil _) fun s3 acc c3 mv g3 io=>?_
  rw [←lo] at io
  have ea:=JC io
  subst ea
  rw [Moved.eq_with mv]
  refine hR s3.heap d s3.toks out c3 pm (fun b o nb e=>mv.heap b o (fun z=>?_) (k2 b o nb e)) g3
  rcases List.mem_cons.mp z with z | z
  ·exact nb z
  ·exact absurd (Heap.lt_size e) (by rw [List.mem_singleton.mp z]; exact Nat.not_lt.mpr geI)
 have gL:=kp L _ hL
 have gS:Shared.TypeIs { s with heap:=h1,drawn:=d } (.ref S) "set":=⟨os,kp S _ hos,exs.1⟩
 refine wpAny_bind (wpAny_holding (LR gS ?_))
 refine wpAny_ite_split (fun _=>?_) fun _=>wpAny_pure ⟨plainId_quiet PySem.F.plain_extend_loop _,run h1 c0 s.toks st (fun b o _ e=>kp b o e) gL⟩
 refine wpAny_bind (wpAny_rule (wpAny_bind (show wpAny _ _ (updateSeq L (·.push .none) >>= fun _=>updateSeq L (·.pop)) _ _ _ from ?_)))
 refine wpAny_bind (wpAny_updateSeq gL rfl ?_)
 have u2:=Heap.get?_update_self (Obj.mapSeq (·.push Value.none)) gL rfl
 refine wpAny_updateSeq (hz:=by seq_fits) u2 rfl ?_
 have u3:=Heap.get?_update_self (Obj.mapSeq (·.pop)) u2 rfl
 have far:∀b o,b≠L→h1.get? b=some o→((h1.update L (Obj.mapSeq (·.push Value.none))).update L (Obj.mapSeq (·.pop))).get? b=some o:=fun b o nb e=>
  (Heap.get?_update_other _ _ (Ne.symm nb)).trans ((Heap.get?_update_other _ _ (Ne.symm nb)).trans e)
 exact wpAny_pure ⟨plainId_quiet PySem.F.plain_extend_loop _,run _ _ s.toks (W.frame 0 _ _ st fun b hb' o e=>far b o (fun z=>bG (z ▸ hb')) e) (fun b o nb e=>far b o nb (kp b o e)) u3⟩
theorem Bc {R:List Value→Shared→Prop} (hh:A.handled=none) (hs:mZ (bt w) s.heap S es ep t) (hb:es.size < scanBound)
  (h:∀(h':Heap) (d:Drawn) (tk:Nat) (us:List Value),us.Perm (es.toList.map (·.2))→s.heap.objs.size≤h'.objs.size→(∀b o,s.heap.get? b=some o→h'.get? b=some o)→R us { s with heap:=h',drawn:=d,toks:=tk }):
  wpAny (model prog w) A (collect (.ref S)) R E s:=by
 have ltS:S < s.heap.objs.size:=let ⟨_,e,_⟩:=hs; Heap.lt_size e
 unfold collect
 refine wpAny_bind (wpAny_runValue (codeAny_builtin entry_proto_collect' ?_)); rw [Around.under_plainId PySem.F.plain_proto_collect _]
 show wpAny _ A.in1 (newList [] >>= fun l=>again (.builtin "list.__iadd__" ⟨[l,.ref S],[]⟩)) _ _ s
 refine wpAny_bind (wpAny_newObj_type (wpAny_pure ⟨plainId_quiet PySem.F.plain_list_iadd _,codeAny_builtin entry_list_iadd' ?_⟩)); rw [Around.under_plainId PySem.F.plain_list_iadd _]
 have g0:(s.heap.push { cls:=.type "list",data:=.seq ([]:List Value).toArray }).get? s.heap.objs.size=some { cls:=.type "list",data:=.seq #[] }:=Heap.get?_push_size _ rfl
 show wpAny _ A.in1 (Builtin.List.listExtendWith (.ref s.heap.objs.size) (.ref S) (.ref s.heap.objs.size)) _ _ _
 have key:=Ex (prog:=prog) (A:=A) (s:={ s with heap:=s.heap.push { cls:=.type "list",data:=.seq ([]:List Value).toArray } })
  (R:=fun (q:Result) (s':Shared)=>∃(h':Heap) (d:Drawn) (tk:Nat) (us:List Value) (c':Nat),q=.ok (.ret (.ref s.heap.objs.size))∧s'={ s with heap:=h',drawn:=d,toks:=tk }∧us.Perm (es.toList.map (·.2))∧(∀b o,s.heap.get? b=some o→h'.get? b=some o)∧h'.get? s.heap.objs.size=some { cls:=.type "list",dict:=none,data:=.seq us.toArray c',slots:=#[] })
  hh (hs.at fun o e=>Heap.get?_push_of_some _ e) hb (Nat.ne_of_gt ltS) g0 (.ref s.heap.objs.size) (fun h' d tk us c' pm kk g=>⟨h',d,tk,us,c',rfl,rfl,pm,fun b o e=>kk b o (Nat.ne_of_lt (Heap.lt_size e)) (Heap.get?_push_of_some _ e),g⟩)
 refine wpAny_mono key (fun fin s' x=>?_) fun e s' x=>?_
 ·cases fin with
  | done f=>
   obtain ⟨h',d,tk,us,c',e,rfl,pm,kk,g⟩:=x
   cases e
   show wpAny _ A (load s.heap.objs.size >>= _) _ _ _
   exact wpAny_bind (wpAny_load g (wpAny_pure (h h' d tk us pm (Nat.le_of_lt (Heap.lt_size g)) kk)))
  | again c1=>
   refine ⟨x.1,codeAny_mono x.2 fun q s2 y=>?_⟩
   obtain ⟨h',d,tk,us,c',rfl,rfl,pm,kk,g⟩:=y
   show wpAny _ A (load s.heap.objs.size >>= _) _ _ _
   exact wpAny_bind (wpAny_load g (wpAny_pure (h h' d tk us pm (Nat.le_of_lt (Heap.lt_size g)) kk)))
 ·obtain ⟨_,_,_,_,_,e',_⟩:=x
  cases e'
end
end L2
namespace L2
open PySem PySem.Spec PySem.W PyProof.Rows
section
variable {prog:Program} {w:World} {A:Around} {E:Value→Shared→Prop} {s:Shared} {S:Addr} {es:Array (Int×Value)} {ep:Nat} {t:SetTable}
theorem Ey {Ok:List Value→Prop} {Q:Value→Shared→Prop} (hh:A.handled=none) (hs:mZ (bt w) s.heap S es ep t) (few:es.size < 64)
  (srt:∀us:List Value,us.Perm (es.toList.map (·.2))→∀(B:Around) (s1:Shared) (a:Addr) (n:Nat) (P:Fin→Shared→Prop) (E':Value→Shared→Prop),s1.heap.get? a=some (seqObj "list" us.toArray n)→
   (∀out:Array Value,Ok out.toList→P (.done (.ret .none)) { s1 with heap:=sortedHeap s1.heap a us out })→wpAny (model prog w) B (Builtin.«list.sort» ⟨[.ref a],[]⟩) P E' s1)
  (h:∀(D:Addr) (h':Heap) (d:Drawn) (tk c:Nat) (out:Array Value),Ok out.toList→s.heap.objs.size≤D→(∀b o,s.heap.get? b=some o→h'.get? b=some o)→h'.get? D=some (seqObj "list" out c)→Q (.ref D) { s with heap:=h',drawn:=d,toks:=tk }):
  wpAny (model prog w) A (call (.builtin "sorted") [.ref S]) Q E s:=by
 refine Calls.call_function_entry kind_sorted plain_sorted entry_sorted (args_sorted1 _) ?_
 unfold Builtin.«sorted»
 refine wpAny_bind (m:=checkCount "sorted" 1 1 _) (wpAny_pure (wpAny_bind (Bc (A:=A.in1) hh hs (by unfold scanBound; omega) fun h1 d tk us pm ge kk=>?_)))
 have lu:us.length=es.size:=by rw [pm.length_eq,List.length_map,Array.length_toList]
 refine wpAny_bind (wpAny_newList ?_ (by rw [sizeLine_eq]; omega))
 have gL:(h1.push (seqObj "list" us.toArray 0)).get? h1.objs.size=some (seqObj "list" us.toArray 0):=Heap.get?_push_size _ rfl
 refine wpAny_bind (wpAny_holding (wpAny_call_entry slot_list_sort ⟨_,gL,rfl⟩ entry_list_sort (srt us pm _ { s with heap:=h1.push (seqObj "list" us.toArray 0),drawn:=d,toks:=tk } _ 0 _ _ gL fun out ok=>⟨_,rfl,?_⟩) (args_list_sort _)))
 obtain ⟨c,gD⟩:=sortedHeap_at (out:=out) gL
 refine wpAny_pure ⟨_,rfl,h h1.objs.size _ d tk c out ok ge (fun b o e=>?_) gD⟩
 have lb:b < h1.objs.size:=Heap.lt_size (kk b o e)
 show (sortedHeap (h1.push (seqObj "list" us.toArray 0)) h1.objs.size us out).get? b=some o
 rw [sortedHeap_old (Nat.ne_of_lt lb) (by rw [Heap.size_push]; exact Nat.lt_succ_of_lt lb)]
 exact Heap.get?_push_of_some _ (kk b o e)
end
end L2
namespace L2
open PySem PySem.Spec PySem.W PyProof.Rows
theorem Inv.drew {X:Cx} {pins:List (Addr×Obj)} {σ:St} {H:Hp} {s:Shared} (d:Drawn) (I:Inv X pins σ H s):Inv X pins σ H { s with drawn:=d }:=
 I.call (g':=s.gens) (t':=s.toks) (d':=d) (ch:=[]) (Un.kept fun _ _ e=>e) (I.hok.kept fun _ _ e=>e) I.bare (fun _ z=>nomatch z)
section
variable {X:Cx} {T:Type} [DecidableEq T] {knd:PySem.KeyKind X.prog X.w T} {l:Expr} {tl:TE} {p1 p2 pos1 pos2:Pos}
end
section
variable {prog:Program} {w:World}
theorem Ma {es:List (Int×Value)} {ks:List Str} (h:wz (PySem.strKind prog w) es ks):(es.map (·.2)).map strOf=ks∧∀v,v∈es.map (·.2)→∃x t,v=.str x t:=by
 induction h with
 | nil=>exact ⟨rfl,fun v hv=>by cases hv⟩
 | @cons e k es ks a _ ih=>
  obtain ⟨t,ht⟩:=Value.isStrOf_shape (show Value.isStrOf k e.2=true from a.1)
  refine ⟨by rw [List.map_cons,List.map_cons,ih.1,ht]; rfl,fun v hv=>?_⟩
  rcases List.mem_cons.mp hv with rfl | hv
  ·exact ⟨k,t,ht⟩
  ·exact ih.2 v hv
end
section
variable {X:Cx} {l:Expr} {tl:TE} {p1 p2 pos1 pos2:Pos}
end
end L2
namespace L2
open PySem PySem.Spec PySem.W PyProof.Rows
section
variable {prog:Program} {w:World} {A:Around} {E:Value→Shared→Prop} {s:Shared} {R:Result→Shared→Prop} {I S:Addr} {fp wr:List Addr} {n:Nat} {Pv:Nat→Value→Prop} {St:Nat→Heap→Prop} {bt:Nat→Nat→Bool}
noncomputable def W2 (v:Value) (c:Nat):Obj:={ cls:=.type "list",dict:=none,data:=.seq #[v,v] c,slots:=#[] }
end
end L2
namespace L2
open PySem PySem.Spec PySem.W PyProof.Rows
section
variable {prog:Program} {w:World} {A:Around} {E:Value→Shared→Prop} {s:Shared}
theorem yU {id:String} {b:Builtin} {as:List Value} {kw:List (Str×Value)} {Q:Value→Shared→Prop} (hk:builtinKind id=none) (hp:plainId id=true) (hb:entryFor table id=some b) (ha:argsOk id ⟨as,kw⟩)
  (hc:wpAny (model prog w) A.in1 (b ⟨as,kw⟩) (fun fin s'=>match fin with
   | .done f=>(match (Except.ok f:Result) with | .ok (.ret v)=>Q v s' | .ok _=>False | .error e=>E e s')
   | .again c'=>c'.quiet=true∧codeAny (model prog w) A c' (fun r s'=>match r with | .ok (.ret v)=>Q v s' | .ok _=>False | .error e=>E e s') s') E s):wpAny (model prog w) A (call (.builtin id) as kw) Q E s:=by
 refine wpAny_call (codeAny_call_builtin hp hb ?_)
 simp only [checkBuiltinCall,hk]
 cases hg:Manifest.signature? id with
 | none=>exact wpAny_pure hc
 | some sg=>
  simp only [argsOk,hg] at ha
  show wpAny _ A.in1 (Bind.checkArgs id sg ⟨as,kw⟩) _ _ s
  rw [show Bind.checkArgs id sg ⟨as,kw⟩=pure () from ha]
  exact wpAny_pure hc
end
section
variable {X:Cx} {l de:Expr} {tl td:TE} {p pos kp:Pos}
end
end L2
namespace L2
open PySem PySem.Spec PyProof.Rows PySem.W
noncomputable def cN:PyData→Option Key
 | .int i=>some (.inl i)
 | .str x=>some (.inr x)
 | _=>none
noncomputable def keysOf:List PyData→Option (List Key)
 | []=>some []
 | d::r=>match cN d,keysOf r with
  | some k,some t=>some (k::t)
  | _,_=>none
noncomputable def lQ:PyData→Option (List Key)
 | .tuple ds=>keysOf ds
 | _=>none
noncomputable def cC {κ:Type} (f:PyData→Option κ):List (PyData×PyData)→Option (List κ)
 | []=>some []
 | p::r=>match f p.1,cC f r with
  | some k,some t=>some (k::t)
  | _,_=>none
noncomputable def RP (H:Hp) (a:Addr) (kvs:List (PyData×PyData)) (vs:List V):Prop:=
 (∃ks,cC cN kvs=some ks∧H a=some (.dK (ks.zip vs)))∨∃ks,(kvs≠[]∧cC lQ kvs=some ks)∧H a=some (.dT (ks.zip vs))
mutual
noncomputable def RZ (H:Hp):PyData→V→Prop
 | .none,v=>v=.non
 | .bool b,v=>v=.bl b
 | .int i,v=>v=.int i
 | .str x,v=>v=.str x
 | .list ds,v=>∃a vs,v=.ref a∧H a=some (.lst vs)∧eY H ds vs
 | .tuple ds,v=>∃a vs,v=.ref a∧H a=some (.tup vs)∧eY H ds vs
 | .dict kvs,v=>∃a vs,v=.ref a∧RP H a kvs vs∧pG H kvs vs
noncomputable def eY (H:Hp):List PyData→List V→Prop
 | [],vs=>vs=[]
 | d::ds,vs=>∃v r,vs=v::r∧RZ H d v∧eY H ds r
noncomputable def pG (H:Hp):List (PyData×PyData)→List V→Prop
 | [],vs=>vs=[]
 | p::r,vs=>∃v t,vs=v::t∧RZp H p v∧pG H r t
noncomputable def RZp (H:Hp):PyData×PyData→V→Prop
 | (_,d),v=>RZ H d v
end
theorem RP.same {H H':Hp} (s:aQ H H') {a:Addr} {kvs:List (PyData×PyData)} {vs:List V} (h:RP H a kvs vs):RP H' a kvs vs:=by
 rcases h with ⟨ks,e,h⟩ | ⟨ks,e,h⟩
 ·exact .inl ⟨ks,e,s _ _ h⟩
 ·exact .inr ⟨ks,e,s _ _ h⟩
mutual
theorem RZ.same {H H':Hp} (s:aQ H H'):∀{d:PyData} {v:V},RZ H d v→RZ H' d v
 | .none,_,h=>h
 | .bool _,_,h=>h
 | .int _,_,h=>h
 | .str _,_,h=>h
 | .list ds,_,h=>by
  obtain ⟨a,vs,e,q,r⟩:=h
  exact ⟨a,vs,e,s _ _ q,eY.same s r⟩
 | .tuple ds,_,h=>by
  obtain ⟨a,vs,e,q,r⟩:=h
  exact ⟨a,vs,e,s _ _ q,eY.same s r⟩
 | .dict kvs,_,h=>by
  obtain ⟨a,vs,e,q,r⟩:=h
  exact ⟨a,vs,e,q.same s,pG.same s r⟩
theorem eY.same {H H':Hp} (s:aQ H H'):∀{ds:List PyData} {vs:List V},eY H ds vs→eY H' ds vs
 | [],_,h=>h
 | d::ds,vs,h=>by
  obtain ⟨v,r,e,q,t⟩:=h
  exact ⟨v,r,e,RZ.same s q,eY.same s t⟩
theorem pG.same {H H':Hp} (s:aQ H H'):∀{kvs:List (PyData×PyData)} {vs:List V},pG H kvs vs→pG H' kvs vs
 | [],_,h=>h
 | (k,d)::ds,vs,h=>by
  obtain ⟨v,r,e,q,t⟩:=h
  exact ⟨v,r,e,RZ.same s q,pG.same s t⟩
end
theorem bI {H:Hp}:∀{ds:List PyData} {vs:List V},eY H ds vs→vs.length=ds.length
 | [],_,h=>by cases (show _=[] from h); rfl
 | e::ds,vs,h=>by
  obtain ⟨u,r,e1,q,s⟩:=h
  subst e1
  rw [List.length_cons,List.length_cons,bI s]
theorem yV {H:Hp}:∀{ds:List (PyData×PyData)} {vs:List V},pG H ds vs→vs.length=ds.length
 | [],_,h=>by cases (show _=[] from h); rfl
 | e::ds,vs,h=>by
  obtain ⟨u,r,e1,q,s⟩:=h
  subst e1
  rw [List.length_cons,List.length_cons,yV s]
theorem m5 {H:Hp}:∀{ds:List PyData} {vs:List V} {i:Nat} {d:PyData},eY H ds vs→ds[i]?=some d→∃v,vs[i]?=some v∧RZ H d v
 | [],_,_,_,_,e=>by simp at e
 | x::ds,vs,i,d,h,e=>by
  obtain ⟨u,r,e1,q,s⟩:=h
  subst e1
  cases i with
  | zero=>cases e; exact ⟨u,rfl,q⟩
  | succ i=>
   obtain ⟨v,e2,h2⟩:=m5 (i:=i) s (by simpa using e)
   exact ⟨v,by simpa using e2,h2⟩
theorem nW {H:Hp}:∀{ds es:List PyData} {vs ws:List V},eY H ds vs→eY H es ws→eY H (ds++es) (vs++ws)
 | [],_,_,_,h,g=>by cases (show _=[] from h); exact g
 | d::ds,_,_,_,h,g=>by
  obtain ⟨u,r,e1,q,s⟩:=h
  subst e1
  exact ⟨u,_,rfl,q,nW s g⟩
theorem Bd {H:Hp}:∀{ds:List PyData} {vs:List V} (n:Nat),eY H ds vs→eY H (ds.take n) (vs.take n)
 | _,_,0,_=>by rw [List.take_zero,List.take_zero]; rfl
 | [],_,n + 1,h=>by cases (show _=[] from h); rfl
 | d::ds,_,n + 1,h=>by
  obtain ⟨u,r,e1,q,s⟩:=h
  subst e1
  exact ⟨u,_,rfl,q,Bd n s⟩
theorem Be {H:Hp}:∀{ds:List PyData} {vs:List V} (n:Nat),eY H ds vs→eY H (ds.drop n) (vs.drop n)
 | _,_,0,h=>h
 | [],_,n + 1,h=>by cases (show _=[] from h); rfl
 | d::ds,_,n + 1,h=>by
  obtain ⟨u,r,e1,q,s⟩:=h
  subst e1
  exact Be n s
theorem G6 {H:Hp} {d:PyData} {v:V} (hv:RZ H d v):∀{ds:List PyData} {vs:List V} (i:Nat),eY H ds vs→eY H (ds.set i d) (vs.set i v)
 | [],_,_,h=>by cases (show _=[] from h); rfl
 | x::ds,_,i,h=>by
  obtain ⟨u,r,e1,q,s⟩:=h
  subst e1
  cases i with
  | zero=>exact ⟨v,r,rfl,hv,s⟩
  | succ i=>exact ⟨u,_,rfl,q,G6 hv i s⟩
noncomputable def d7:PyData→Bool
 | .none=>true
 | .bool _=>true
 | .int _=>true
 | .str _=>true
 | _=>false
noncomputable def toV:PyData→V
 | .none=>.non
 | .bool b=>.bl b
 | .int i=>.int i
 | .str x=>.str x
 | _=>.non
theorem Ql {H:Hp} {d:PyData} {v:V} (f:d7 d=true) (h:RZ H d v):v=toV d:=by
 cases d <;> first | exact h | cases f
theorem Qm {H:Hp} {d:PyData} (f:d7 d=true):RZ H d (toV d):=by
 cases d <;> first | rfl | cases f
theorem uK {H:Hp}:∀{ds:List PyData} {vs:List V},ds.all d7=true→eY H ds vs→vs=ds.map toV
 | [],_,_,h=>h
 | d::ds,vs,f,h=>by
  obtain ⟨u,r,e1,q,s⟩:=h
  rw [List.all_cons,Bool.and_eq_true] at f
  rw [e1,Ql f.1 q,uK f.2 s]
  rfl
theorem Mf {H:Hp} (ns:List Str):eY H (ns.map PyData.str) (ns.map V.str):=by
 induction ns with
 | nil=>rfl
 | cons n r ih=>exact ⟨_,_,rfl,rfl,ih⟩
mutual
noncomputable def wA:PyData→Bool
 | .list _=>false
 | .tuple ds=>d8 ds
 | .dict _=>false
 | _=>true
noncomputable def d8:List PyData→Bool
 | []=>true
 | d::r=>wA d&&d8 r
end
mutual
theorem RZ.wA {H H':Hp} (t:∀a vs,H a=some (.tup vs)→H' a=some (.tup vs)):∀{d:PyData} {v:V},wA d=true→RZ H d v→RZ H' d v
 | .none,_,_,h=>h
 | .bool _,_,_,h=>h
 | .int _,_,_,h=>h
 | .str _,_,_,h=>h
 | .list ds,_,n,h=>nomatch n
 | .tuple ds,_,n,h=>by
  obtain ⟨a,vs,e,q,r⟩:=h
  exact ⟨a,vs,e,t _ _ q,eY.wA t n r⟩
 | .dict _,_,n,_=>nomatch n
theorem eY.wA {H H':Hp} (t:∀a vs,H a=some (.tup vs)→H' a=some (.tup vs)):∀{ds:List PyData} {vs:List V},d8 ds=true→eY H ds vs→eY H' ds vs
 | [],_,_,h=>h
 | d::ds,vs,n,h=>by
  obtain ⟨v,r,e,q,w⟩:=h
  have n':L2.wA d=true∧d8 ds=true:=by rw [d8,Bool.and_eq_true] at n; exact n
  exact ⟨v,r,e,RZ.wA t n'.1 q,eY.wA t n'.2 w⟩
end
mutual
noncomputable def Ez:PyData→Bool
 | .list ds=>iQ ds
 | .tuple ds=>iQ ds
 | .dict _=>false
 | _=>true
noncomputable def iQ:List PyData→Bool
 | []=>true
 | d::r=>Ez d&&iQ r
end
mutual
theorem RZ.rx {H:Hp}:∀{d:PyData} {v:V},Ez d=true→RZ H d v→RX H d v
 | .none,_,_,h=>h
 | .bool _,_,_,h=>h
 | .int _,_,_,h=>h
 | .str _,_,_,h=>h
 | .list ds,_,n,h=>by
  obtain ⟨a,vs,e,q,r⟩:=h
  exact ⟨a,vs,e,q,eY.rx n r⟩
 | .tuple ds,_,n,h=>by
  obtain ⟨a,vs,e,q,r⟩:=h
  exact ⟨a,vs,e,q,eY.rx n r⟩
 | .dict _,_,n,_=>nomatch n
theorem eY.rx {H:Hp}:∀{ds:List PyData} {vs:List V},iQ ds=true→eY H ds vs→Ay H ds vs
 | [],_,_,h=>h
 | d::ds,vs,n,h=>by
  obtain ⟨v,r,e,q,t⟩:=h
  have n':Ez d=true∧iQ ds=true:=by rw [iQ,Bool.and_eq_true] at n; exact n
  exact ⟨v,r,e,RZ.rx n'.1 q,eY.rx n'.2 t⟩
end
inductive Vl where
 | im (d:PyData)
 | ow (d:PyData)
 | ce (n:Nat)
 | sc (ns:List Int)
noncomputable abbrev En:=List (Option Vl)
noncomputable abbrev Ce:=List (List Int)
noncomputable def own1:Option Vl→Option V→List Addr
 | some (.ow _),some (.ref a)=>[a]
 | _,_=>[]
noncomputable def aV:En→St→List Addr
 | x::e,v::s=>own1 x v++aV e s
 | _,_=>[]
theorem cg {a:Addr}:∀{env:En} {σ:St},a∈aV env σ ↔ ∃(i:Nat) (d:PyData),env[i]?=some (some (Vl.ow d))∧σ[i]?=some (some (V.ref a))
 | [],σ=>by
  constructor
  ·intro h; simp [aV] at h
  ·rintro ⟨i,d,e,_⟩; simp at e
 | x::e,[]=>by
  constructor
  ·intro h; simp [aV] at h
  ·rintro ⟨i,d,_,e⟩; simp at e
 | x::e,v::s=>by
  rw [aV,List.mem_append,cg (env:=e) (σ:=s)]
  constructor
  ·rintro (h | ⟨i,d,h1,h2⟩)
   ·unfold own1 at h
    split at h
    ·rw [List.mem_singleton] at h
     subst h
     exact ⟨0,_,rfl,rfl⟩
    ·simp at h
   ·exact ⟨i + 1,d,by simpa using h1,by simpa using h2⟩
  ·rintro ⟨i,d,h1,h2⟩
   cases i with
   | zero=>
    simp at h1 h2
    subst h1 h2
    exact .inl (List.mem_singleton.mpr rfl)
   | succ i=>exact .inr ⟨i,d,by simpa using h1,by simpa using h2⟩
theorem qu {a:Addr}:∀{env:En} {σ:St} {i j:Nat} {d e:PyData},(aV env σ).Nodup→env[i]?=some (some (Vl.ow d))→σ[i]?=some (some (V.ref a))→env[j]?=some (some (Vl.ow e))→σ[j]?=some (some (V.ref a))→i=j
 | [],_,i,_,_,_,_,h,_,_,_=>by simp at h
 | _::_,[],i,_,_,_,_,_,h,_,_=>by simp at h
 | x::en,v::s,i,j,d,e,nd,h1,h2,h3,h4=>by
  rw [aV,List.nodup_append] at nd
  cases i with
  | zero=>
   cases j with
   | zero=>rfl
   | succ j=>
    simp at h1 h2
    subst h1 h2
    have:a∈aV en s:=cg.mpr ⟨j,e,by simpa using h3,by simpa using h4⟩
    exact absurd rfl (nd.2.2 a (List.mem_singleton.mpr rfl) a this)
  | succ i=>
   cases j with
   | zero=>
    simp at h3 h4
    subst h3 h4
    have:a∈aV en s:=cg.mpr ⟨i,d,by simpa using h1,by simpa using h2⟩
    exact absurd rfl (nd.2.2 a (List.mem_singleton.mpr rfl) a this)
   | succ j=>rw [qu (i:=i) (j:=j) nd.2.1 (by simpa using h1) (by simpa using h2) (by simpa using h3) (by simpa using h4)]
noncomputable def Zu (x y:Option Vl):Prop:=y=x∨∃d,x=some (.ow d)∧y=some (.im d)
noncomputable def Fz:En→En→Prop
 | [],[]=>True
 | x::r,y::t=>Zu x y∧Fz r t
 | _,_=>False
theorem Fz.refl:∀e:En,Fz e e
 | []=>trivial
 | x::r=>⟨.inl rfl,Fz.refl r⟩
theorem Fz.trans:∀{a b c:En},Fz a b→Fz b c→Fz a c
 | [],[],[],_,_=>trivial
 | x::r,y::t,z::w,h,g=>by
  refine ⟨?_,Fz.trans h.2 g.2⟩
  rcases h.1 with e | ⟨d,e1,e2⟩
  ·rw [←e]; exact g.1
  ·rcases g.1 with e | ⟨d',e3,e4⟩
   ·exact .inr ⟨d,e1,e.trans e2⟩
   ·rw [e2] at e3; cases e3
 | [],[],_::_,_,g=>nomatch g
 | [],_::_,_,h,_=>nomatch h
 | _::_,[],_,h,_=>nomatch h
 | _::_,_::_,[],_,g=>nomatch g
theorem Fz.len:∀{a b:En},Fz a b→b.length=a.length
 | [],[],_=>rfl
 | _::_,_::_,h=>by rw [List.length_cons,List.length_cons,Fz.len h.2]
 | [],_::_,h=>nomatch h
 | _::_,[],h=>nomatch h
theorem Fz.at:∀{a b:En} {i:Nat} {y:Vl},Fz a b→b[i]?=some (some y)→a[i]?=some (some y)∨∃d,a[i]?=some (some (.ow d))∧y=.im d
 | [],[],i,y,_,e=>by simp at e
 | x::r,z::t,0,y,h,e=>by
  simp at e
  rcases h.1 with q | ⟨d,q1,q2⟩
  ·left; rw [←q,e]; rfl
  ·right; rw [e] at q2; cases q2; exact ⟨d,by rw [q1]; rfl,rfl⟩
 | x::r,z::t,i + 1,y,h,e=>by
  simpa using Fz.at (i:=i) h.2 (by simpa using e)
 | [],_::_,_,_,h,_=>nomatch h
 | _::_,[],_,_,h,_=>nomatch h
theorem Qn {x y:Option Vl} (h:Zu x y) (v:Option V):List.Sublist (own1 y v) (own1 x v):=by
 rcases h with e | ⟨d,e1,e2⟩
 ·rw [e]; exact List.Sublist.refl _
 ·rw [e2]; exact List.nil_sublist _
theorem Fz.own:∀{a b:En} {σ:St},Fz a b→List.Sublist (aV b σ) (aV a σ)
 | [],[],σ,_=>by cases σ <;> exact List.Sublist.refl _
 | x::r,y::t,[],h=>List.Sublist.refl _
 | x::r,y::t,v::s,h=>by
  rw [aV,aV]
  exact List.Sublist.append (Qn h.1 v) (Fz.own h.2)
 | [],_::_,_,h=>nomatch h
 | _::_,[],_,h=>nomatch h
noncomputable abbrev aK (Z Θ:List Addr) (env:En) (σ:St):List Addr:=Z++(Θ++aV env σ)
noncomputable def m6 (E H:Hp) (a:Addr):PyData→Prop
 | .list ds=>∃vs,H a=some (.lst vs)∧eY E ds vs
 | .dict kvs=>∃vs,RP H a kvs vs∧pG E kvs vs
 | _=>False
theorem m6.same {E E' H H':Hp} {a:Addr} {d:PyData} (s:aQ E E') (h:∀o,H a=some o→H' a=some o) (r:m6 E H a d):m6 E' H' a d:=by
 cases d <;> first | exact r.elim | skip
 ·obtain ⟨vs,e,q⟩:=r
  exact ⟨vs,h _ e,q.same s⟩
 ·obtain ⟨vs,e,q⟩:=r
  refine ⟨vs,?_,q.same s⟩
  rcases e with ⟨ks,k,e⟩ | ⟨ks,k,e⟩
  ·exact .inl ⟨ks,k,h _ e⟩
  ·exact .inr ⟨ks,k,h _ e⟩
theorem m6.rz {E H:Hp} {a:Addr} {d:PyData} (h:∀o,H a=some o→E a=some o) (r:m6 E H a d):RZ E d (.ref a):=by
 cases d <;> first | exact r.elim | skip
 ·obtain ⟨vs,e,q⟩:=r
  exact ⟨a,vs,rfl,h _ e,q⟩
 ·obtain ⟨vs,e,q⟩:=r
  refine ⟨a,vs,rfl,?_,q⟩
  rcases e with ⟨ks,k,e⟩ | ⟨ks,k,e⟩
  ·exact .inl ⟨ks,k,h _ e⟩
  ·exact .inr ⟨ks,k,h _ e⟩
structure bK (Θ:List Addr) (H H':Hp):Prop where
 keep:∀a o,H a=some o→a∉Θ→H' a=some o
 dom:∀a,H a≠none→H' a≠none
theorem bK.refl (Θ:List Addr) (H:Hp):bK Θ H H:=⟨fun _ _ e _=>e,fun _ e=>e⟩
theorem bK.trans {Θ:List Addr} {H H1 H2:Hp} (a:bK Θ H H1) (b:bK Θ H1 H2):bK Θ H H2:=⟨fun c o e n=>b.keep _ _ (a.keep _ _ e n) n,fun c e=>b.dom _ (a.dom _ e)⟩
theorem bK.none {Θ:List Addr} {H H':Hp} (k:bK Θ H H') {a:Addr} (h:H' a=none):H a=none:=by
 cases e:H a with
 | none=>rfl
 | some o=>exact absurd h (k.dom a (by rw [e]; exact Option.some_ne_none _))
theorem bK.of {Θ:List Addr} {H H':Hp} (s:aQ H H'):bK Θ H H':=⟨fun a o e _=>s _ _ e,fun a h=>by
 cases e:H a with
 | none=>exact absurd e h
 | some o=>rw [s _ _ e]; exact Option.some_ne_none _⟩
theorem bK.upd {Θ:List Addr} {H:Hp} {p:Addr} {o:HO} (h:H p=Option.none):bK Θ H (L2.upd H p o):=bK.of (aQ.upd h)
theorem fB {Z Z' Θ:List Addr} {H H':Hp} (k:bK Θ H H') (ht:∀a∈Θ,a∈Z) (hz:∀a,a∈Z'→a∈Z∨H a=none):aQ (er Z H) (er Z' H'):=fun b o h=>by
 unfold er at h ⊢
 split at h
 ·cases h
 ·rename_i n
  rw [if_neg,k.keep _ _ h (fun m=>n (ht b m))]
  intro m
  rcases hz b m with q | q
  ·exact n q
  ·rw [q] at h; cases h
noncomputable def JD (K:PySem.W.Frag) (E H:Hp) (Θ:List Addr):Vl→V→Prop
 | .im d,v=>RZ E d v
 | .ow d,v=>∃a,v=.ref a∧m6 E H a d
 | .ce n,v=>∃a,v=.ref a∧Θ[n]?=some a
 | .sc ns,v=>∃a,v=.ref a∧cZ K E a (ns.map V.int)
noncomputable def NT (o:Option HO):Prop:=∃u,o=some u∧∀vs,u≠.tup vs
theorem NT.ne {o:Option HO} (h:NT o):o≠none:=by
 obtain ⟨u,rfl,_⟩:=h
 exact Option.some_ne_none _
theorem m6.nt {E H:Hp} {a:Addr} {d:PyData} (r:m6 E H a d):NT (H a):=by
 cases d <;> first | exact r.elim | skip
 ·obtain ⟨vs,e,q⟩:=r
  exact ⟨_,e,fun _ z=>nomatch z⟩
 ·obtain ⟨vs,e,q⟩:=r
  rcases e with ⟨ks,k,e⟩ | ⟨ks,k,e⟩
  ·exact ⟨_,e,fun _ z=>nomatch z⟩
  ·exact ⟨_,e,fun _ z=>nomatch z⟩
theorem m6.there {E H:Hp} {a:Addr} {d:PyData} (r:m6 E H a d):H a≠none:=r.nt.ne
structure dX (Θ:List Addr) (C:Ce) (H:Hp):Prop where
 len:C.length=Θ.length
 at_:∀(n:Nat) (a:Addr) (ns:List Int),Θ[n]?=some a→C[n]?=some ns→H a=some (.lst (ns.map V.int))
structure Sm (K:PySem.W.Frag) (Z Θ:List Addr) (env:En) (C:Ce) (σ:St) (H:Hp):Prop where
 len:σ.length=env.length
 nd:(aK Z Θ env σ).Nodup
 dom:∀a∈Z,NT (H a)
 slot:∀(i:Nat) (x:Vl),env[i]?=some (some x)→∃v,σ[i]?=some (some v)∧JD K (er (aK Z Θ env σ) H) H Θ x v
 cell:dX Θ C H
theorem dX.dom {Θ:List Addr} {C:Ce} {H:Hp} (c:dX Θ C H):∀a∈Θ,NT (H a):=fun a m=>by
 obtain ⟨n,hn,e⟩:=List.getElem_of_mem m
 have e1:Θ[n]?=some a:=by rw [List.getElem?_eq_getElem hn,e]
 have h2:n < C.length:=by rw [c.len]; exact hn
 exact ⟨_,c.at_ n a C[n] e1 (List.getElem?_eq_getElem h2),fun _ z=>nomatch z⟩
section
variable {K:PySem.W.Frag} {Z Θ:List Addr} {env env':En} {C C':Ce} {σ:St} {H H':Hp}
theorem Sm.Yj (S:Sm K Z Θ env C σ H):∀a∈aK Z Θ env σ,NT (H a):=fun a m=>by
 rcases List.mem_append.mp m with m | m
 ·exact S.dom a m
 ·rcases List.mem_append.mp m with m | m
  ·exact S.cell.dom a m
  ·obtain ⟨i,d,e1,e2⟩:=cg.mp m
   obtain ⟨v,e3,b,e4,r⟩:=S.slot i _ e1
   rw [e2] at e3
   cases e3
   cases e4
   exact r.nt
theorem Sm.yW (S:Sm K Z Θ env C σ H):∀a∈aK Z Θ env σ,H a≠none:=fun a m=>(S.Yj a m).ne
theorem Sm.G7 (S:Sm K Z Θ env C σ H):∀a∈Θ,a∈aK Z Θ env σ:=fun a m=>List.mem_append_right _ (List.mem_append_left _ m)
theorem JD.same {E E':Hp} {x:Vl} {v:V} (s:aQ E E') (h:∀d a,x=.ow d→v=.ref a→∀o,H a=some o→H' a=some o) (r:JD K E H Θ x v):JD K E' H' Θ x v:=by
 cases x with
 | im d=>exact RZ.same s r
 | ow d=>obtain ⟨a,e,q⟩:=r; exact ⟨a,e,q.same s (h d a rfl e)⟩
 | ce n=>exact r
 | sc ns=>obtain ⟨a,e,q⟩:=r; exact ⟨a,e,s.seq q⟩
theorem Sm.eZ (S:Sm K Z Θ env C σ H) {a:Addr} (m:a∈aV env σ):a∉Z∧a∉Θ:=by
 have h:=S.nd
 rw [List.nodup_append] at h
 obtain ⟨_,h2,h3⟩:=h
 rw [List.nodup_append] at h2
 refine ⟨fun z=>h3 a z a (List.mem_append_right _ m) rfl,fun z=>h2.2.2 a z a m rfl⟩
theorem Sm.go (S:Sm K Z Θ env C σ H) (k:bK Θ H H') (c:dX Θ C' H'):Sm K Z Θ env C' σ H' where
 len:=S.len
 nd:=S.nd
 dom:=fun a m=>by
  obtain ⟨u,e,n⟩:=S.dom a m
  have h:=S.nd
  rw [List.nodup_append] at h
  exact ⟨u,k.keep _ _ e fun z=>h.2.2 a m a (List.mem_append_left _ z) rfl,n⟩
 slot:=fun i x e=>by
  obtain ⟨v,e1,r⟩:=S.slot i x e
  refine ⟨v,e1,r.same (fB k S.G7 fun a m=>.inl m) fun d a ex ev o ho=>k.keep _ _ ho ?_⟩
  subst ex ev
  exact (S.eZ (cg.mpr ⟨i,d,e,e1⟩)).2
 cell:=c
theorem Sm.fz (S:Sm K Z Θ env C σ H) (f:Fz env env'):Sm K Z Θ env' C σ H:=by
 have sub:List.Sublist (aK Z Θ env' σ) (aK Z Θ env σ):=List.Sublist.append (List.Sublist.refl _) (List.Sublist.append (List.Sublist.refl _) f.own)
 have sm:aQ (er (aK Z Θ env σ) H) (er (aK Z Θ env' σ) H):=fB (bK.refl [] H) (fun _ m=>nomatch m) fun a m=>.inl (sub.subset m)
 refine ⟨by rw [f.len]; exact S.len,sub.nodup S.nd,S.dom,fun i x e0=>?_,S.cell⟩
 rcases f.at e0 with e | ⟨d,e,ex⟩
 ·obtain ⟨v,e1,r⟩:=S.slot i x e
  exact ⟨v,e1,r.same sm fun _ _ _ _ _ ho=>ho⟩
 ·subst ex
  obtain ⟨v,e1,a,ev,r⟩:=S.slot i _ e
  subst ev
  refine ⟨_,e1,m6.rz (H:=H) (fun o ho=>?_) (r.same sm fun _ ho=>ho)⟩
  unfold er
  rw [if_neg]
  ·exact ho
  ·intro m
   have hm:a∈aV env σ:=cg.mpr ⟨i,d,e,e1⟩
   rcases List.mem_append.mp m with m | m
   ·exact (S.eZ hm).1 m
   ·rcases List.mem_append.mp m with m | m
    ·exact (S.eZ hm).2 m
    ·obtain ⟨j,d',e3,e4⟩:=cg.mp m
     have nd:=S.nd
     rw [List.nodup_append] at nd
     have nd2:=nd.2.1
     rw [List.nodup_append] at nd2
     rcases f.at e3 with e5 | ⟨_,_,e5⟩
     ·have:=qu nd2.2.1 e e1 e5 e4
      subst this
      rw [e0] at e3
      cases e3
     ·cases e5
end
end L2
namespace L2
open PySem PySem.Spec PyProof.Rows PySem.W
section
variable {K:PySem.W.Frag} {Z Θ:List Addr} {env env':En} {C C':Ce} {σ:St} {H H':Hp} {a p:Addr}
theorem Sm.pop (S:Sm K (a::Z) Θ env C σ H):Sm K Z Θ env C σ H:=by
 have sm:aQ (er (aK (a::Z) Θ env σ) H) (er (aK Z Θ env σ) H):=fB (bK.refl [] H) (fun _ m=>nomatch m) fun b m=>.inl (List.mem_cons_of_mem _ m)
 exact ⟨S.len,(List.nodup_cons.mp S.nd).2,fun b m=>S.dom b (List.mem_cons_of_mem _ m),fun i x e=>let ⟨v,e1,r⟩:=S.slot i x e; ⟨v,e1,r.same sm fun _ _ _ _ _ h=>h⟩,S.cell⟩
theorem Sm.push (S:Sm K Z Θ env C σ H) (hp:H p=none) (o:HO) (ho:∀vs,o≠.tup vs):Sm K (p::Z) Θ env C σ (upd H p o):=by
 have k:bK Θ H (upd H p o):=bK.upd hp
 have sm:aQ (er (aK Z Θ env σ) H) (er (aK (p::Z) Θ env σ) (upd H p o)):=fB k S.G7 fun b m=>by
  rcases List.mem_cons.mp m with rfl | m
  ·exact .inr hp
  ·exact .inl m
 have c:dX Θ C (upd H p o):=⟨S.cell.len,fun n b ns e1 e2=>by
  have:=S.cell.at_ n b ns e1 e2
  rw [aJ (bz this hp)]
  exact this⟩
 refine ⟨S.len,List.nodup_cons.mpr ⟨fun m=>S.yW p m hp,S.nd⟩,fun b m=>?_,fun i x e=>?_,c⟩
 ·rcases List.mem_cons.mp m with rfl | m
  ·exact ⟨o,aL,ho⟩
  ·obtain ⟨u,e,n⟩:=S.dom b m
   exact ⟨u,by rw [aJ (bz e hp)]; exact e,n⟩
 ·obtain ⟨v,e1,r⟩:=S.slot i x e
  refine ⟨v,e1,r.same sm fun d b ex ev o' ho=>?_⟩
  rw [aJ (bz ho hp)]
  exact ho
theorem Sm.uJ (S:Sm K Z Θ env C σ H) (s:aQ H H'):Sm K Z Θ env C σ H':=
 S.go (bK.of s) ⟨S.cell.len,fun n b ns e1 e2=>s _ _ (S.cell.at_ n b ns e1 e2)⟩
noncomputable def Res (K:PySem.W.Frag) (Z Θ:List Addr) (env:En) (C:Ce) (σ:St) (H H':Hp):Vl→V→Prop
 | .im d,v=>Sm K Z Θ env C σ H'∧RZ (er (aK Z Θ env σ) H') d v
 | .ow d,v=>∃a,v=.ref a∧H a=none∧Sm K (a::Z) Θ env C σ H'∧m6 (er (aK (a::Z) Θ env σ) H') H' a d
 | .ce n,v=>Sm K Z Θ env C σ H'∧∃a,v=.ref a∧Θ[n]?=some a
 | .sc ns,v=>Sm K Z Θ env C σ H'∧∃a,v=.ref a∧cZ K (er (aK Z Θ env σ) H') a (ns.map V.int)
noncomputable def Um (E T:Hp):PyData→V→Prop
 | .list ds,v=>∃a vs,v=.ref a∧T a=some (.lst vs)∧eY E ds vs
 | .dict kvs,v=>∃a vs,v=.ref a∧RP T a kvs vs∧pG E kvs vs
 | d,v=>RZ E d v
theorem Um.same {E E' T T':Hp} {d:PyData} {v:V} (s:aQ E E') (t:aQ T T') (h:Um E T d v):Um E' T' d v:=by
 cases d <;> first | exact RZ.same s h | skip
 ·obtain ⟨a,vs,e,q,r⟩:=h
  exact ⟨a,vs,e,t _ _ q,r.same s⟩
 ·obtain ⟨a,vs,e,q,r⟩:=h
  exact ⟨a,vs,e,q.same t,r.same s⟩
theorem RZ.bor {E T:Hp} {d:PyData} {v:V} (t:aQ E T) (h:RZ E d v):Um E T d v:=by
 cases d <;> first | exact h | skip
 ·obtain ⟨a,vs,e,q,r⟩:=h
  exact ⟨a,vs,e,t _ _ q,r⟩
 ·obtain ⟨a,vs,e,q,r⟩:=h
  exact ⟨a,vs,e,q.same t,r⟩
noncomputable abbrev dY (Z Θ:List Addr) (env:En) (σ:St) (H:Hp) (d:PyData) (v:V):Prop:=Um (er (aK Z Θ env σ) H) (er Θ H) d v
theorem jB {Z Z':List Addr} {H:Hp} (h:∀a,a∈Z'→a∈Z):aQ (er Z H) (er Z' H):=fB (bK.refl [] H) (fun _ m=>nomatch m) fun b m=>.inl (h b m)
theorem RQ:aQ (er (aK Z Θ env σ) H) (er Θ H):=jB fun a m=>List.mem_append_right _ (List.mem_append_left _ m)
theorem Fz.sub (f:Fz env env'):∀a,a∈aK Z Θ env' σ→a∈aK Z Θ env σ:=fun a m=>
 (List.Sublist.append (List.Sublist.refl _) (List.Sublist.append (List.Sublist.refl _) f.own)).subset m
theorem Mg (S:Sm K Z Θ env C σ H) (k:bK Θ H H') (f:Fz env env'):aQ (er (aK Z Θ env σ) H) (er (aK Z Θ env' σ) H'):=fB k S.G7 fun a m=>.inl (f.sub a m)
theorem yX (k:bK Θ H H'):aQ (er Θ H) (er Θ H'):=fB k (fun _ m=>m) fun a m=>.inl m
theorem dY.go {d:PyData} {v:V} (h:dY Z Θ env σ H d v) (S:Sm K Z Θ env C σ H) (k:bK Θ H H') (f:Fz env env'):dY Z Θ env' σ H' d v:=Um.same (Mg S k f) (yX k) h
noncomputable def dat:Vl→Option PyData
 | .im d=>some d
 | .ow d=>some d
 | .ce _=>none
 | .sc _=>none
theorem Res.sm {r:Vl} {v:V} (h:Res K Z Θ env C σ H H' r v):Sm K Z Θ env C σ H':=by
 cases r with
 | im d=>exact h.1
 | ow d=>obtain ⟨a,_,_,S,_⟩:=h; exact S.pop
 | ce n=>exact h.1
 | sc ns=>exact h.1
theorem Res.bor {r:Vl} {v:V} {d:PyData} (h:Res K Z Θ env C σ H H' r v) (e:dat r=some d):dY Z Θ env σ H' d v:=by
 cases r with
 | im d'=>cases e; exact RZ.bor RQ h.2
 | ow d'=>
  cases e
  obtain ⟨a,rfl,_,S,r⟩:=h
  have na:a∉Θ:=fun m=>(List.nodup_cons.mp S.nd).1 (List.mem_append_right _ (List.mem_append_left _ m))
  have sm:aQ (er (aK (a::Z) Θ env σ) H') (er (aK Z Θ env σ) H'):=jB fun b m=>List.mem_cons_of_mem _ m
  have ha:∀o,H' a=some o→er Θ H' a=some o:=fun o ho=>by unfold er; rw [if_neg na]; exact ho
  cases d <;> first | exact r.elim | skip
  ·obtain ⟨vs,e,q⟩:=r
   exact ⟨a,vs,rfl,ha _ e,q.same sm⟩
  ·obtain ⟨vs,e,q⟩:=r
   refine ⟨a,vs,rfl,?_,q.same sm⟩
   rcases e with ⟨ks,k,e⟩ | ⟨ks,k,e⟩
   ·exact .inl ⟨ks,k,ha _ e⟩
   ·exact .inr ⟨ks,k,ha _ e⟩
 | ce n=>cases e
 | sc ns=>cases e
noncomputable def still:Vl→Vl
 | .ow d=>.im d
 | r=>r
theorem Res.still {r:Vl} {v:V} (h:Res K Z Θ env C σ H H' r v):Res K Z Θ env C σ H H' (still r) v:=by
 cases r with
 | ow d=>
  obtain ⟨a,rfl,hn,S,r⟩:=h
  refine ⟨S.pop,m6.rz (H:=H') (fun o ho=>?_) (r.same (jB fun b m=>List.mem_cons_of_mem _ m) fun _ h=>h)⟩
  unfold er
  rw [if_neg (show ¬a∈aK Z Θ env σ from (List.nodup_cons.mp S.nd).1)]
  exact ho
 | im d=>exact h
 | ce n=>exact h
 | sc ns=>exact h
theorem Res.from {H0:Hp} {r:Vl} {v:V} (h:Res K Z Θ env C σ H H' r v) (k:bK Θ H0 H):Res K Z Θ env C σ H0 H' r v:=by
 cases r with
 | ow d=>
  obtain ⟨a,e,hn,S,r⟩:=h
  exact ⟨a,e,k.none hn,S,r⟩
 | im d=>exact h
 | ce n=>exact h
 | sc ns=>exact h
theorem uL (S:Sm K Z Θ env C σ H) {a:Addr} {vs:List V} (h:H a=some (.tup vs)):er (aK Z Θ env σ) H a=some (.tup vs):=by
 unfold er
 rw [if_neg]
 ·exact h
 ·intro m
  obtain ⟨u,e,n⟩:=S.Yj a m
  rw [h] at e
  exact n vs (Option.some.inj e).symm
noncomputable def rst (r:Vl) (env env':En):En:=match r with
 | .im d=>if wA d then env else env'
 | _=>env'
theorem Res.rst {r:Vl} {v:V} (S:Sm K Z Θ env C σ H) (k:bK Θ H H') (h:Res K Z Θ env' C' σ H H' r v):Res K Z Θ (rst r env env') C' σ H H' r v:=by
 cases r with
 | im d=>
  by_cases f:L2.wA d=true
  ·have:L2.rst (.im d) env env'=env:=if_pos f
   rw [this]
   have S':=S.go k h.1.cell
   exact ⟨S',h.2.wA (fun a vs e=>uL S' (bw e)) f⟩
  ·have:L2.rst (.im d) env env'=env':=if_neg f
   rw [this]
   exact h
 | ow d=>exact h
 | ce n=>exact h
 | sc ns=>exact h
theorem Fz.rst (r:Vl) (f:Fz env env'):Fz env (rst r env env'):=by
 cases r with
 | im d=>
  show Fz env (if L2.wA d then env else env')
  split
  ·exact Fz.refl _
  ·exact f
 | ow d=>exact f
 | ce n=>exact f
 | sc ns=>exact f
theorem bu {d:PyData} (S:Sm K Z Θ env C σ H) (f:d7 d=true) {v:V} (hv:v=toV d):Res K Z Θ env C σ H H (.im d) v:=⟨S,by rw [hv]; exact Qm f⟩
theorem tR {ds:List PyData} {vs:List V} (S:Sm K Z Θ env C σ H) (r:eY (er (aK Z Θ env σ) H) ds vs) (hp:H p=none):Res K Z Θ env C σ H (upd H p (.lst vs)) (.ow (.list ds)) (.ref p):=by
 refine ⟨p,rfl,hp,S.push hp _ (fun _ z=>nomatch z),vs,aL,r.same (fB (bK.upd (Θ:=Θ) hp) S.G7 fun b m=>?_)⟩
 rcases List.mem_cons.mp m with rfl | m
 ·exact .inr hp
 ·exact .inl m
theorem Qo {kvs:List (PyData×PyData)} {vs:List V} {o:HO} (S:Sm K Z Θ env C σ H) (ho:∀vs,o≠.tup vs) (d:RP (upd H p o) p kvs vs) (r:pG (er (aK Z Θ env σ) H) kvs vs) (hp:H p=none):Res K Z Θ env C σ H (upd H p o) (.ow (.dict kvs)) (.ref p):=by
 refine ⟨p,rfl,hp,S.push hp _ ho,vs,d,r.same (fB (bK.upd (Θ:=Θ) hp) S.G7 fun b m=>?_)⟩
 rcases List.mem_cons.mp m with rfl | m
 ·exact .inr hp
 ·exact .inl m
theorem tU {ds:List PyData} {vs:List V} (S:Sm K Z Θ env C σ H) (r:eY (er (aK Z Θ env σ) H) ds vs) (hp:H p=none):Res K Z Θ env C σ H (upd H p (.tup vs)) (.im (.tuple ds)) (.ref p):=by
 have S':=S.uJ (aQ.upd (o:=.tup vs) hp)
 refine ⟨S',p,vs,rfl,?_,r.same (fB (bK.upd (Θ:=Θ) hp) S.G7 fun b m=>.inl m)⟩
 unfold er
 rw [if_neg (fun m=>S.yW p m hp),aL]
end
noncomputable abbrev FE:=En→Ce→Option (Vl×En×Ce)
noncomputable abbrev FB:=En→Ce→Option (PyData×En×Ce)
noncomputable abbrev FT:=En→Ce→Option (Bool×Ce)
noncomputable abbrev OJ:=En→Ce→Option (List PyData×En×Ce)
noncomputable abbrev FA:=En→Ce→Option (List Vl×En×Ce)
noncomputable def tE (K:PySem.W.Frag) (f:FE):TE:=fun σ H Q=>∃Z Θ env C r env' C',Sm K Z Θ env C σ H∧f env C=some (r,env',C')∧
 ∀v H',bK Θ H H'→Fz env env'→Res K Z Θ env' C' σ H H' r v→Q v H'
noncomputable def kY (K:PySem.W.Frag) (f:FB):TE:=fun σ H Q=>∃Z Θ env C d env' C',Sm K Z Θ env C σ H∧f env C=some (d,env',C')∧
 ∀v H',bK Θ H H'→Fz env env'→Sm K Z Θ env' C' σ H'→dY Z Θ env' σ H' d v→Q v H'
noncomputable def mO (K:PySem.W.Frag) (f:FT):TT:=fun σ H Q=>∃Z Θ env C b C',Sm K Z Θ env C σ H∧f env C=some (b,C')∧
 ∀H',bK Θ H H'→Sm K Z Θ env C' σ H'→Q b H'
inductive EY (E T:Hp):List PyData→List V→Prop
 | nil:EY E T [] []
 | cons {d:PyData} {v:V} {ds:List PyData} {vs:List V}:Um E T d v→EY E T ds vs→EY E T (d::ds) (v::vs)
noncomputable abbrev G8 (Z Θ:List Addr) (env:En) (σ:St) (H:Hp) (ds:List PyData) (vs:List V):Prop:=EY (er (aK Z Θ env σ) H) (er Θ H) ds vs
noncomputable def RT (K:PySem.W.Frag) (f:OJ):TA:=fun σ H Q=>∃Z Θ env C ds env' C',Sm K Z Θ env C σ H∧f env C=some (ds,env',C')∧
 ∀vs H',bK Θ H H'→Fz env env'→Sm K Z Θ env' C' σ H'→G8 Z Θ env' σ H' ds vs→Q vs H'
theorem PE.weak {X:Cx} {e:Expr} {t t':TE} (h:PE X e t) (w:∀σ H Q,t' σ H Q→t σ H Q):PE X e t':=fun pins s σ H Q I q=>h pins s σ H Q I (w σ H Q q)
theorem PT.weak {X:Cx} {e:Expr} {t t':TT} (h:PT X e t) (w:∀σ H Q,t' σ H Q→t σ H Q):PT X e t':=fun pins s σ H Q I q=>h pins s σ H Q I (w σ H Q q)
theorem PA.weak {X:Cx} {e:List Expr} {t t':TA} (h:PA X e t) (w:∀σ H Q,t' σ H Q→t σ H Q):PA X e t':=fun p pins s σ H Q I q=>h p pins s σ H Q I (w σ H Q q)
theorem PS.weak {X:Cx} {e:Stmt} {t t':TS} (h:PS X e t) (w:∀D σ H,t' D σ H→t D σ H):PS X e t':=fun pins s σ H D I q=>h pins s σ H D I (w D σ H q)
theorem sY.weak {X:Cx} {e:List Stmt} {t t':TS} (h:sY X e t) (w:∀D σ H,t' D σ H→t D σ H):sY X e t':=fun pins s σ H D I q=>h pins s σ H D I (w D σ H q)
theorem PW.weak {X:Cx} {e:Expr} {t t':TT} (h:PW X e t) (w:∀σ H Q,t' σ H Q→t σ H Q):PW X e t':=fun wh pins s σ H Q I q=>h wh pins s σ H Q I (w σ H Q q)
noncomputable def fVar (i:Nat):FE:=fun env C=>match env[i]? with
 | some (some (.im d))=>some (.im d,env,C)
 | some (some (.ow d))=>some (.im d,env.set i (some (.im d)),C)
 | some (some (.ce n))=>some (.ce n,env,C)
 | some (some (.sc ns))=>some (.sc ns,env,C)
 | _=>none
noncomputable def aA (i:Nat):FB:=fun env C=>match env[i]? with
 | some (some x)=>(dat x).map fun d=>(d,env,C)
 | _=>none
noncomputable def fCst (d:PyData):FE:=fun env C=>some (.im d,env,C)
noncomputable def au (f:FE):FB:=fun env C=>match f env C with
 | some (r,e',C')=>(dat r).map fun d=>(d,e',C')
 | none=>none
theorem Mh:∀{env:En} {i:Nat} {d:PyData},env[i]?=some (some (.ow d))→Fz env (env.set i (some (.im d)))
 | [],i,d,e=>by simp at e
 | x::r,0,d,e=>by simp at e; subst e; exact ⟨.inr ⟨d,rfl,rfl⟩,Fz.refl r⟩
 | x::r,i + 1,d,e=>⟨.inl rfl,Mh (by simpa using e)⟩
section
variable {X:Cx} {e:Expr} {i:Nat}
theorem aB (h:PE X e (uc i)):PE X e (tE X.K (fVar i)):=h.weak fun σ H Q aP=>by
 obtain ⟨Z,Θ,env,C,r,env',C',S,hf,q⟩:=aP
 unfold fVar at hf
 split at hf
 all_goals first | (rename_i d hd; cases hf) | cases hf
 ·obtain ⟨v,e1,r⟩:=S.slot i _ hd
  exact ⟨v,e1,q v H (bK.refl _ _) (Fz.refl _) ⟨S,r⟩⟩
 ·have f:=Mh hd
  obtain ⟨v,e1,r⟩:=S.slot i _ hd
  have S':=S.fz f
  refine ⟨v,e1,q v H (bK.refl _ _) f ⟨S',?_⟩⟩
  have hi:i < env.length:=by
   have:=List.getElem?_eq_some_iff.mp hd
   exact this.1
  obtain ⟨v',e2,r'⟩:=S'.slot i (.im d) (by rw [List.getElem?_set,if_pos rfl,if_pos hi])
  rw [e1] at e2
  cases e2
  exact r'
 ·obtain ⟨v,e1,r⟩:=S.slot i _ hd
  exact ⟨v,e1,q v H (bK.refl _ _) (Fz.refl _) ⟨S,r⟩⟩
 ·obtain ⟨v,e1,r⟩:=S.slot i _ hd
  exact ⟨v,e1,q v H (bK.refl _ _) (Fz.refl _) ⟨S,r⟩⟩
theorem ao (h:PE X e (uc i)):PE X e (kY X.K (aA i)):=h.weak fun σ H Q aP=>by
 obtain ⟨Z,Θ,env,C,d,env',C',S,hf,q⟩:=aP
 unfold aA at hf
 split at hf
 ·rename_i x hx
  obtain ⟨v,e1,r⟩:=S.slot i _ hx
  have ex:dat x=some d∧env=env'∧C=C':=by
   cases hd:dat x with
   | none=>rw [hd] at hf; cases hf
   | some d'=>rw [hd] at hf; cases hf; exact ⟨rfl,rfl,rfl⟩
  obtain ⟨ex,rfl,rfl⟩:=ex
  refine ⟨v,e1,q v H (bK.refl _ _) (Fz.refl _) S ?_⟩
  cases x with
  | im d'=>cases ex; exact RZ.bor RQ r
  | ow d'=>
   cases ex
   obtain ⟨a,rfl,r⟩:=r
   have na:=(S.eZ (cg.mpr ⟨i,_,hx,e1⟩)).2
   have ha:∀o,H a=some o→er Θ H a=some o:=fun o ho=>by unfold er; rw [if_neg na]; exact ho
   cases d <;> first | exact r.elim | skip
   ·obtain ⟨vs,e,q⟩:=r
    exact ⟨a,vs,rfl,ha _ e,q⟩
   ·obtain ⟨vs,e,q⟩:=r
    refine ⟨a,vs,rfl,?_,q⟩
    rcases e with ⟨ks,k,e⟩ | ⟨ks,k,e⟩
    ·exact .inl ⟨ks,k,ha _ e⟩
    ·exact .inr ⟨ks,k,ha _ e⟩
  | ce n=>cases ex
  | sc ns=>cases ex
 ·cases hf
theorem aq {d:PyData} {v:V} (h:PE X e (tC v)) (f:d7 d=true:=by rfl) (hv:v=toV d:=by rfl):PE X e (tE X.K (fCst d)):=h.weak fun σ H Q aP=>by
 obtain ⟨Z,Θ,env,C,r,env',C',S,hf,q⟩:=aP
 cases hf
 exact q v H (bK.refl _ _) (Fz.refl _) (bu S f hv)
theorem aj {f:FE} (h:PE X e (tE X.K f)):PE X e (kY X.K (au f)):=h.weak fun σ H Q aP=>by
 obtain ⟨Z,Θ,env,C,d,env',C',S,hf,q⟩:=aP
 unfold au at hf
 split at hf
 ·rename_i r e' C1 hr
  cases hd:dat r with
  | none=>rw [hd] at hf; cases hf
  | some d'=>
   rw [hd] at hf
   cases hf
   exact ⟨Z,Θ,env,C,r,env',C',S,hr,fun v H' k f R=>q v H' k f R.sm (R.bor hd)⟩
 ·cases hf
end
end L2
namespace L2
open PySem PySem.Spec PyProof.Rows PySem.W
noncomputable def LIM:Nat:=1000000
theorem dH {n:Nat} (h:n≤LIM):n≤sizeLine:=by rw [sizeLine_eq]; unfold LIM at h; omega
noncomputable def oK (K:PySem.W.Frag) (r:R2) (op:PyData→PyData→Option Vl):Prop:=
 ∀(Z Θ:List Addr) (env:En) (C:Ce) (σ:St) (H:Hp) (x y:V) (dx dy:PyData) (res:Vl),Sm K Z Θ env C σ H→dY Z Θ env σ H dx x→dY Z Θ env σ H dy y→op dx dy=some res→
  ∀Q:VK,(∀v H',bK Θ H H'→Res K Z Θ env C σ H H' res v→Q v H')→r x y H Q
noncomputable def aC (op:PyData→PyData→Option Vl) (fa fb:FB):FE:=fun env C=>match fa env C with
 | some (x,e1,C1)=>match fb e1 C1 with
  | some (y,e2,C2)=>match op x y with
   | some r=>some (r,rst r env e2,C2)
   | none=>none
  | none=>none
 | none=>none
theorem qw {K:PySem.W.Frag} {r:R2} {op:PyData→PyData→Option Vl} (L:oK K r op) {fa fb:FB}:∀σ H Q,tE K (aC op fa fb) σ H Q→Wc r (kY K fa) (kY K fb) σ H Q:=by
 rintro σ H Q ⟨Z,Θ,env,C,res,env',C',S,hf,q⟩
 unfold aC at hf
 split at hf
 ·rename_i x e1 C1 h1
  split at hf
  ·rename_i y e2 C2 h2
   split at hf
   ·rename_i r0 h3
    cases hf
    refine ⟨Z,Θ,env,C,x,e1,C1,S,h1,fun v H1 k1 f1 S1 b1=>⟨Z,Θ,e1,C1,y,e2,C',S1,h2,fun u H2 k2 f2 S2 b2=>?_⟩⟩
    refine L Z Θ e2 C' σ H2 v u x y res S2 (b1.go S1 k2 f2) b2 h3 Q fun z H3 k3 R=>?_
    have k:=(k1.trans k2).trans k3
    exact q z H3 k ((f1.trans f2).rst res) ((R.from (k1.trans k2)).rst S k)
   ·cases hf
  ·cases hf
 ·cases hf
section
variable {X:Cx} {a b:Expr} {fa fb:FB} {pos:Pos} {r:R2} {op:PyData→PyData→Option Vl}
theorem aM {o:Operator} (ho:gF X (binaryOp o) r) (L:oK X.K r op) (ha:PE X a (kY X.K fa)) (hb:PE X b (kY X.K fb)):PE X (.BinOp a o b pos) (tE X.K (aC op fa fb)):=(Wd ho ha hb).weak (qw L)
theorem jC {o:CmpOp} (ho:gF X (compareOp o) r) (L:oK X.K r op) (ha:PE X a (kY X.K fa)) (hb:PE X b (kY X.K fb)) (hm:behindInMarks o b=false):PE X (.Compare a [o] [b] pos) (tE X.K (aC op fa fb)):=(Pb ho ha hb hm).weak (qw L)
theorem bC (ho:Kc X r) (L:oK X.K r op) (ha:PE X a (kY X.K fa)) (hb:PE X b (kY X.K fb)) (hs:tL b):PE X (.Subscript a b pos) (tE X.K (aC op fa fb)):=(KY ho ha hb hs).weak (qw L)
end
theorem oK.or {K:PySem.W.Frag} {r r':R2} {op op':PyData→PyData→Option Vl} (h:oK K r op) (h':oK K r' op'):oK K (fun x y H Q=>r x y H Q∨r' x y H Q) (fun x y=>match op x y with | some z=>some z | none=>op' x y):=by
 intro Z Θ env C σ H x y dx dy res S bx jV e Q q
 cases h1:op dx dy with
 | some z=>
  simp only [h1] at e
  cases e
  exact .inl (h Z Θ env C σ H x y dx dy _ S bx jV h1 Q q)
 | none=>
  simp only [h1] at e
  exact .inr (h' Z Θ env C σ H x y dx dy res S bx jV e Q q)
section
variable {K:PySem.W.Frag} {Z Θ:List Addr} {env:En} {C:Ce} {σ:St} {H:Hp} {x:V}
theorem dY.int {i:Int} (h:dY Z Θ env σ H (.int i) x):x=.int i:=h
theorem dY.str {i:Str} (h:dY Z Θ env σ H (.str i) x):x=.str i:=h
theorem dY.tup {ds:List PyData} (h:dY Z Θ env σ H (.tuple ds) x):∃a vs,x=.ref a∧H a=some (.tup vs)∧eY (er (aK Z Θ env σ) H) ds vs:=by
 obtain ⟨a,vs,e,q,r⟩:=h
 exact ⟨a,vs,e,bw q,r⟩
theorem dY.lst {ds:List PyData} (h:dY Z Θ env σ H (.list ds) x):∃a vs,x=.ref a∧H a=some (.lst vs)∧eY (er (aK Z Θ env σ) H) ds vs:=by
 obtain ⟨a,vs,e,q,r⟩:=h
 exact ⟨a,vs,e,bw q,r⟩
theorem dY.dct {kvs:List (PyData×PyData)} (h:dY Z Θ env σ H (.dict kvs) x):∃a vs,x=.ref a∧RP H a kvs vs∧pG (er (aK Z Θ env σ) H) kvs vs:=by
 obtain ⟨a,vs,e,q,r⟩:=h
 exact ⟨a,vs,e,q.same (sE _ _),r⟩
theorem dY.flat {d:PyData} (f:d7 d=true) (h:dY Z Θ env σ H d x):x=toV d:=by
 cases d <;> first | exact h | cases f
theorem dY.rx {d:PyData} (n:Ez d=true) (h:dY Z Θ env σ H d x):RX H d x:=by
 cases d <;> first | exact h | skip
 ·obtain ⟨a,vs,e,q,r⟩:=h
  exact ⟨a,vs,e,bw q,(r.same (sE _ _)).rx n⟩
 ·obtain ⟨a,vs,e,q,r⟩:=h
  exact ⟨a,vs,e,bw q,(r.same (sE _ _)).rx n⟩
 ·cases n
end
section
variable {X:Cx}
noncomputable def aX:PyData→PyData→Option Vl
 | .int i,.int j=>some (.im (.int (i + j)))
 | .str x,.str y=>if x.length + y.length≤LIM then some (.im (.str (x++y))) else none
 | .list xs,.list ys=>if xs.length + ys.length≤LIM then some (.ow (.list (xs++ys))) else none
 | .tuple xs,.tuple ys=>if xs.isEmpty then some (.im (.tuple ys)) else if xs.length + ys.length≤LIM then some (.im (.tuple (xs++ys))) else none
 | _,_=>none
noncomputable def RV (K:PySem.W.Frag):R2:=fun x y H Q=>∃a b ys,x=.ref a∧y=.ref b∧ig K H a []∧ig K H b ys∧Q (.ref b) H
theorem Qp {X:Cx}:gF X (binaryOp .Add) (RV X.K):=by
 intro pins s σ H x y v u Q I rx ry h
 obtain ⟨a,b,ys,rfl,rfl,ha,hb,q⟩:=h
 cases rx
 cases ry
 obtain ⟨its,r1,p1,_⟩:=I.tuple ha
 obtain ⟨its2,r2,p2,_⟩:=I.tuple hb
 obtain ⟨⟨cls,dd,data,sl⟩,ho,hc,n,hd⟩:=id p1
 obtain ⟨⟨cls2,dd2,data2,sl2⟩,ho2,hc2,n2,hd2⟩:=id p2
 simp only at hc hd hc2 hd2
 subst hc hd hc2 hd2
 exact concat_meets ⟨_,ho,rfl⟩ ⟨_,ho2,rfl⟩ noFill_tuple_add seq_tuple_add PySem.F.slot_tuple_add PySem.F.entry_tuple_add (PySem.F.args_tuple_add_2 _ _)
  (tuple_addW0 a b its.toArray its2.toArray n n2 dd dd2 sl sl2 (by cases r1; rfl)) ⟨ho,ho2,⟨.ref b,H,I,rfl,q⟩⟩
noncomputable def RW (K:PySem.W.Frag):R2:=fun x y H Q=>(((Iz fun i j=>.int (i + j)) x y H Q∨∃i j,x=.str i∧y=.str j∧i.length + j.length≤sizeLine∧Q (.str (i++j)) H)∨Wv x y H Q)∨RV K x y H Q∨Rz K x y H Q
theorem bh:gF X (binaryOp .Add) (RW X.K):=((Tr.or DN).or T7).or (Qp.or Pu)
theorem bT {K:PySem.W.Frag}:oK K (RW K) aX:=by
 intro Z Θ env C σ H x y dx dy res S bx jV e Q q
 unfold aX at e
 split at e
 ·cases e
  cases bx.int; cases jV.int
  exact .inl (.inl (.inl ⟨_,_,rfl,rfl,q _ _ (bK.refl _ _) (bu S rfl rfl)⟩))
 ·split at e
  ·rename_i hl
   cases e
   cases bx.str; cases jV.str
   exact .inl (.inl (.inr ⟨_,_,rfl,rfl,dH hl,q _ _ (bK.refl _ _) (bu S rfl rfl)⟩))
  ·cases e
 ·split at e
  ·rename_i hl
   cases e
   obtain ⟨a,vs,rfl,ha,r1⟩:=bx.lst
   obtain ⟨b,ws,rfl,hb,r2⟩:=jV.lst
   exact .inl (.inr ⟨a,b,vs,ws,rfl,rfl,ha,hb,by rw [bI r1,bI r2]; exact dH hl,fun p hp=>q _ _ (bK.upd hp) (tR S (nW r1 r2) hp)⟩)
  ·cases e
 ·split at e
  ·rename_i xs ys he
   cases e
   have:xs=[]:=List.isEmpty_iff.mp he
   subst this
   have by2:=jV
   obtain ⟨a,vs,rfl,ha,r1⟩:=bx.tup
   obtain ⟨b,ws,rfl,hb,r2⟩:=jV.tup
   cases (show vs=[] from r1)
   exact .inr (.inl ⟨a,b,ws,rfl,rfl,ig.of ha,ig.of hb,q _ _ (bK.refl _ _) ⟨S,by2⟩⟩)
  split at e
  ·rename_i xs ys he hl
   cases e
   obtain ⟨a,vs,rfl,ha,r1⟩:=bx.tup
   obtain ⟨b,ws,rfl,hb,r2⟩:=jV.tup
   have l1:=bI r1
   have l2:=bI r2
   have hv:vs≠[]:=fun z=>by
    subst z
    cases xs with
    | nil=>exact he rfl
    | cons _ _=>cases l1
   refine .inr (.inr ⟨a,b,vs,ws,rfl,rfl,ig.of ha,ig.of hb,hv,by rw [l1,l2]; exact dH hl,fun z=>?_,fun _ p hp=>q _ _ (bK.upd hp) (tU S (nW r1 r2) hp)⟩)
   subst z
   have:ys=[]:=List.eq_nil_of_length_eq_zero l2.symm
   subst this
   rw [List.append_nil] at q
   refine q _ _ (bK.refl _ _) ⟨S,?_⟩
   exact bx
  ·cases e
 ·cases e
noncomputable def xK:PyData→PyData→Option Vl
 | .int i,.int j=>some (.im (.int (i - j)))
 | _,_=>none
theorem yZ {K:PySem.W.Frag} {g:Int→Int→V} {op:PyData→PyData→Option Vl} (h:∀dx dy res,op dx dy=some res→∃i j d,dx=.int i∧dy=.int j∧res=.im d∧d7 d=true∧g i j=toV d):oK K (Iz g) op:=by
 intro Z Θ env C σ H x y dx dy res S bx jV e Q q
 obtain ⟨i,j,d,rfl,rfl,rfl,f,hv⟩:=h _ _ _ e
 cases bx.int; cases jV.int
 exact ⟨_,_,rfl,rfl,q _ _ (bK.refl _ _) (bu S f hv)⟩
theorem za {K:PySem.W.Frag} {Cn:Int→Int→Prop} {g:Int→Int→V} {op:PyData→PyData→Option Vl} (h:∀dx dy res,op dx dy=some res→∃i j d,dx=.int i∧dy=.int j∧res=.im d∧d7 d=true∧g i j=toV d∧Cn i j):oK K (rI Cn g) op:=by
 intro Z Θ env C σ H x y dx dy res S bx jV e Q q
 obtain ⟨i,j,d,rfl,rfl,rfl,f,hv,c⟩:=h _ _ _ e
 cases bx.int; cases jV.int
 exact ⟨_,_,rfl,rfl,c,q _ _ (bK.refl _ _) (bu S f hv)⟩
theorem Fb {K:PySem.W.Frag}:oK K (Iz fun i j=>.int (i - j)) xK:=yZ fun dx dy res e=>by
 unfold xK at e
 split at e <;> cases e
 exact ⟨_,_,_,rfl,rfl,rfl,rfl,rfl⟩
noncomputable def fD:PyData→PyData→Option Vl
 | .int i,.int j=>if 0 < j then some (.im (.int (i % j))) else none
 | _,_=>none
theorem jD {K:PySem.W.Frag}:oK K (rI (fun _ j=>0 < j) fun i j=>.int (i % j)) fD:=za fun dx dy res e=>by
 unfold fD at e
 split at e
 ·split at e
  ·rename_i h; cases e; exact ⟨_,_,_,rfl,rfl,rfl,rfl,rfl,h⟩
  ·cases e
 ·cases e
noncomputable def m7:PyData→PyData→Option Vl
 | .int i,.int j=>if 0 < j∧j < 1073741824 then some (.im (.int (i / j))) else none
 | _,_=>none
theorem zb {K:PySem.W.Frag}:oK K (rI Wf fun i j=>.int (i / j)) m7:=za fun dx dy res e=>by
 unfold m7 at e
 split at e
 ·split at e
  ·rename_i h; cases e; exact ⟨_,_,_,rfl,rfl,rfl,rfl,rfl,h⟩
  ·cases e
 ·cases e
noncomputable def xM:PyData→PyData→Option Vl
 | .int i,.int j=>if 0≤j∧j≤1000000∧i.natAbs < 2 ^ 64 then some (.im (.int (i ^ j.toNat))) else none
 | _,_=>none
theorem Mi {K:PySem.W.Frag}:oK K (rI Wg fun i j=>.int (i ^ j.toNat)) xM:=za fun dx dy res e=>by
 unfold xM at e
 split at e
 ·split at e
  ·rename_i h; cases e; exact ⟨_,_,_,rfl,rfl,rfl,rfl,rfl,h⟩
  ·cases e
 ·cases e
noncomputable def fP:PyData→PyData→Option Vl
 | .int i,.int j=>if (-(2 ^ 64) < i∧i < 2 ^ 64)∨(-(2 ^ 64) < j∧j < 2 ^ 64) then some (.im (.int (i * j))) else none
 | _,_=>none
theorem jE {K:PySem.W.Frag}:oK K (rI Pa fun i j=>.int (i * j)) fP:=za fun dx dy res e=>by
 unfold fP at e
 split at e
 ·split at e
  ·rename_i h; cases e; exact ⟨_,_,_,rfl,rfl,rfl,rfl,rfl,h⟩
  ·cases e
 ·cases e
end
section
variable {X:Cx}
noncomputable def Uo:PyData→PyData→Option Bool
 | .int i,.int j=>some (i==j)
 | .str x,.str y=>some (x==y)
 | .bool a,.bool b=>some (a==b)
 | d,e=>if Ez d&&Ez e&&(PySem.SeqAt.shaped d&&PySem.SeqAt.shaped e) then some (PyData.eqv d e) else none
noncomputable def jF (d e:PyData):Option Vl:=(Uo d e).map fun b=>.im (.bool b)
noncomputable def tD (d e:PyData):Option Vl:=(Uo d e).map fun b=>.im (.bool (!b))
theorem Fd (hu:X.A.units + 64 < cLine):gF X (compareOp .Eq) (fun x y H Q=>∃d e,RX H d x∧RX H e y∧PySem.SeqAt.shaped d=true∧PySem.SeqAt.shaped e=true∧Q (.bl (PyData.eqv d e)) H):=by
 intro pins s σ H x y v u Q I rx ry h
 obtain ⟨d,e,hd,he,h1,h2,q⟩:=h
 obtain ⟨as,ra⟩:=RD.reads I (hd.rd (K:=X.K)) rx
 obtain ⟨bs,rb⟩:=RD.reads I (he.rd (K:=X.K)) ry
 exact PySem.SeqAt.compareEq_shaped ra rb h1 h2 hu ⟨.bl _,H,I,rfl,q⟩
noncomputable def W3:R2:=fun x y H Q=>rEq x y H Q∨∃d e,RX H d x∧RX H e y∧PySem.SeqAt.shaped d=true∧PySem.SeqAt.shaped e=true∧Q (.bl (PyData.eqv d e)) H
noncomputable def W4:R2:=fun x y H Q=>rNe x y H Q∨∃d e,RX H d x∧RX H e y∧PySem.SeqAt.shaped d=true∧PySem.SeqAt.shaped e=true∧Q (.bl (!PyData.eqv d e)) H
theorem gQ (hu:X.A.units + 64 < cLine):gF X (compareOp .Eq) W3:=Wh.or (Fd hu)
theorem zc (hu:X.A.units + 64 < cLine):gF X (compareOp .NotEq) W4:=Wi.or (Ep hu)
theorem xN {d e:PyData} {b:Bool} (h:Uo d e=some b):(d7 d=true∧d7 e=true∧Tt (toV d) (toV e)=true∧b=decide (toV d=toV e))∨(Ez d=true∧Ez e=true∧PySem.SeqAt.shaped d=true∧PySem.SeqAt.shaped e=true∧b=PyData.eqv d e):=by
 unfold Uo at h
 split at h
 ·cases h; exact .inl ⟨rfl,rfl,rfl,yG.symm⟩
 ·cases h; exact .inl ⟨rfl,rfl,rfl,yH.symm⟩
 ·cases h; exact .inl ⟨rfl,rfl,rfl,Dz.symm⟩
 ·split at h
  ·rename_i q
   cases h
   rw [Bool.and_eq_true,Bool.and_eq_true,Bool.and_eq_true] at q
   exact .inr ⟨q.1.1,q.1.2,q.2.1,q.2.2,rfl⟩
  ·cases h
theorem lR {K:PySem.W.Frag}:oK K W3 jF:=by
 intro Z Θ env C σ H x y dx dy res S bx jV e Q q
 unfold jF at e
 cases h:Uo dx dy with
 | none=>rw [h] at e; cases e
 | some b=>
  rw [h] at e
  cases e
  have fin:=q (.bl b) H (bK.refl _ _) (bu S rfl rfl)
  rcases xN h with ⟨f1,f2,sc,eb⟩ | ⟨n1,n2,s1,s2,eb⟩
  ·rw [bx.flat f1,jV.flat f2]
   rw [eb] at fin
   exact .inl ⟨sc,fin⟩
  ·rw [eb] at fin
   exact .inr ⟨dx,dy,bx.rx n1,jV.rx n2,s1,s2,fin⟩
theorem G9 {K:PySem.W.Frag}:oK K W4 tD:=by
 intro Z Θ env C σ H x y dx dy res S bx jV e Q q
 unfold tD at e
 cases h:Uo dx dy with
 | none=>rw [h] at e; cases e
 | some b=>
  rw [h] at e
  cases e
  have fin:=q (.bl (!b)) H (bK.refl _ _) (bu S rfl rfl)
  rcases xN h with ⟨f1,f2,sc,eb⟩ | ⟨n1,n2,s1,s2,eb⟩
  ·rw [bx.flat f1,jV.flat f2]
   rw [eb] at fin
   exact .inl ⟨sc,fin⟩
  ·rw [eb] at fin
   exact .inr ⟨dx,dy,bx.rx n1,jV.rx n2,s1,s2,fin⟩
noncomputable def strLt (x y:Str):Bool:=decide (x.cps.toList < y.cps.toList)
noncomputable def R0 (xs ys:List PyData):Option Bool:=match keysOf xs,keysOf ys with
 | some ks,some js=>if ks.map eU=js.map eU then some (gn ks js) else none
 | _,_=>none
noncomputable def zf:PyData→PyData→Option Vl
 | .int i,.int j=>some (.im (.bool (decide (i < j))))
 | .str x,.str y=>some (.im (.bool (strLt x y)))
 | .tuple xs,.tuple ys=>(R0 xs ys).map fun b=>.im (.bool b)
 | _,_=>none
theorem iG {E:Hp}:∀{ds:List PyData} {ks:List Key} {vs:List V},keysOf ds=some ks→eY E ds vs→vs=ks.map kV
 | [],ks,vs,h,r=>by cases h; exact r
 | d::ds,ks,vs,h,r=>by
  unfold keysOf at h
  split at h
  ·rename_i k t h1 h2
   cases h
   obtain ⟨u,w,e1,q,s⟩:=r
   rw [e1,iG h2 s]
   have:u=kV k:=by
    cases d <;> first | (cases h1; exact q) | cases h1
   rw [this]
   rfl
  ·cases h
noncomputable def Zv:R2:=fun x y H Q=>(∃a b,x=kV a∧y=kV b∧eU a=eU b∧Q (.bl (kLt a b)) H)∨∃a b ks js,x=.ref a∧y=.ref b∧H a=some (.tup (ks.map kV))∧H b=some (.tup (js.map kV))∧ks.map eU=js.map eU∧Q (.bl (gn ks js)) H
theorem Mj {K:PySem.W.Frag}:oK K Zv zf:=by
 intro Z Θ env C σ H x y dx dy res S bx jV e Q q
 unfold zf at e
 split at e
 ·cases e
  cases bx.int; cases jV.int
  exact .inl ⟨.inl _,.inl _,rfl,rfl,rfl,q _ _ (bK.refl _ _) (bu S rfl rfl)⟩
 ·cases e
  cases bx.str; cases jV.str
  exact .inl ⟨.inr _,.inr _,rfl,rfl,rfl,q _ _ (bK.refl _ _) (bu S rfl rfl)⟩
 ·rename_i xs ys
  unfold R0 at e
  split at e
  ·rename_i ks js h1 h2
   split at e
   ·rename_i ht
    cases e
    obtain ⟨a,vs,rfl,ha,r1⟩:=bx.tup
    obtain ⟨b,ws,rfl,hb,r2⟩:=jV.tup
    rw [iG h1 r1] at ha
    rw [iG h2 r2] at hb
    exact .inr ⟨a,b,ks,js,rfl,rfl,ha,hb,ht,q _ _ (bK.refl _ _) (bu S rfl rfl)⟩
   ·cases e
  ·cases e
 ·cases e
noncomputable def rC:PyData→PyData→Option Vl
 | .int i,.int j=>some (.im (.bool (decide (i≤j))))
 | .str x,.str y=>some (.im (.bool (!strLt y x)))
 | _,_=>none
noncomputable def W5:R2:=fun x y H Q=>(Iz fun i j=>.bl (decide (i≤j))) x y H Q∨∃i j,x=.str i∧y=.str j∧Q (.bl (!(decide (j.cps.toList < i.cps.toList)))) H
theorem rD:gF X (compareOp .LtE) W5:=Wj.or Jl
theorem xO {K:PySem.W.Frag}:oK K W5 rC:=by
 intro Z Θ env C σ H x y dx dy res S bx jV e Q q
 unfold rC at e
 split at e
 ·cases e
  cases bx.int; cases jV.int
  exact .inl ⟨_,_,rfl,rfl,q _ _ (bK.refl _ _) (bu S rfl rfl)⟩
 ·cases e
  cases bx.str; cases jV.str
  exact .inr ⟨_,_,rfl,rfl,q _ _ (bK.refl _ _) (bu S rfl rfl)⟩
 ·cases e
noncomputable def Ml:PyData→PyData→Option Vl
 | .int i,.int j=>some (.im (.bool (decide (j < i))))
 | _,_=>none
noncomputable def Qq:PyData→PyData→Option Vl
 | .int i,.int j=>some (.im (.bool (decide (j≤i))))
 | _,_=>none
theorem R3 {K:PySem.W.Frag}:oK K (Iz fun i j=>.bl (decide (j < i))) Ml:=yZ fun dx dy res e=>by
 unfold Ml at e
 split at e <;> cases e
 exact ⟨_,_,_,rfl,rfl,rfl,rfl,rfl⟩
theorem W6 {K:PySem.W.Frag}:oK K (Iz fun i j=>.bl (decide (j≤i))) Qq:=yZ fun dx dy res e=>by
 unfold Qq at e
 split at e <;> cases e
 exact ⟨_,_,_,rfl,rfl,rfl,rfl,rfl⟩
noncomputable def isNone:PyData→Bool
 | .none=>true
 | _=>false
noncomputable def Hf (d e:PyData):Option Vl:=if isNone e then some (.im (.bool (isNone d))) else none
theorem Bg {Z Θ:List Addr} {env:En} {σ:St} {H:Hp} {x:V} {d:PyData} (h:dY Z Θ env σ H d x):decide (x=V.non)=isNone d:=by
 cases d <;> first
  | (cases (show x=_ from h); rfl)
  | (obtain ⟨a,vs,e,_⟩:=h; subst e; rfl)
theorem Uq {K:PySem.W.Frag}:oK K (fun x y H Q=>y=.non∧Q (.bl (decide (x=.non))) H) Hf:=by
 intro Z Θ env C σ H x y dx dy res S bx jV e Q q
 unfold Hf at e
 split at e
 ·rename_i hn
  cases e
  have hy:y=.non:=of_decide_eq_true ((Bg jV).trans hn)
  exact ⟨hy,by rw [Bg bx]; exact q _ _ (bK.refl _ _) (bu S rfl rfl)⟩
 ·cases e
end
end L2
namespace L2
open PySem PySem.Spec PyProof.Rows PySem.W
section
variable {X:Cx} {pins:List (Addr×Obj)} {σ:St} {H:Hp} {s:Shared} {a b:Addr}
theorem Inv.Zw (I:Inv X pins σ H s) (h:H a=some (.dK [])):Inv X pins σ (upd H a (.dT [])) s:=by
 obtain ⟨z,hm,vs,r,o,es,ep,h1,h2,h3,h4,h5,h6⟩:=I.hok a _ h
 cases r
 have e0:es.toList=[]:=by
  cases hh:es.toList with
  | nil=>rfl
  | cons x xs=>rw [hh] at h5; cases h5
 have:=kJ (t':=s.toks) (ob:=.dT []) I (by rw [h]; trivial) (Heap.SameBut.refl a s.heap) ⟨_,h1⟩ ⟨Nat.zero_le _,hm,[],.nil,o,es,ep,h1,h2,h3,e0,List.nodup_nil⟩
 exact this
theorem Inv.reT (I:Inv X pins σ (upd H a (.dT [])) s) (h:H a=some (.dK [])):Inv X pins σ H s:=by
 obtain ⟨z,hm,xs,r,o,es,ep,h1,h2,h3,h4,h5⟩:=I.hok a _ aL
 cases r
 have e0:es=#[]:=by
  cases es
  simp at h4
  rw [h4]
 subst e0
 have:=kJ (t':=s.toks) (ob:=.dK []) I (by rw [aL]; trivial) (Heap.SameBut.refl a s.heap) ⟨_,h1⟩ (yO (Nat.zero_le _) hm .nil ⟨o,#[],ep,h1,h2,h3,fun i hi=>absurd hi (by simp),.nil,List.nodup_nil⟩)
 rw [Gn] at this
 have e:upd H a (.dK [])=H:=by
  funext b
  by_cases hb:b=a
  ·subst hb; rw [aL,h]
  ·exact aJ hb
 rw [e] at this
 exact this
end
noncomputable def Mm (H:Hp) (a:Addr) (y:V) (r:Option V):Prop:=oH H a y r∨(H a=some (.dK [])∧(∃(b:Addr) (ks:List Key),y=.ref b∧H b=some (.tup (ks.map kV)))∧r=none)
section
variable {X:Cx} {pins:List (Addr×Obj)} {σ:St} {H:Hp} {s:Shared} {a:Addr} {y v:V} {u r:Value} {o:Option V} {A:Around} {E:Value→Shared→Prop}
theorem Mm.re (ha:H a=some (.dK [])) {b:Addr} {ks:List Key} (hb:H b=some (.tup (ks.map kV))):oH (upd H a (.dT [])) a (.ref b) none:=by
 have:(upd H a (.dT [])) b=some (.tup (ks.map kV)):=by rw [aJ (Kf hb ha (fun z=>nomatch z))]; exact hb
 exact oH.t (kvs:=[]) (k:=ks) aL this
theorem W7 {Q:Value→Shared→Prop} (hu:A.units + 1 < cLine) (I:Inv X pins σ H s) (g:Mm H a y o) (ry:RelV y u) (h:∀s',Inv X pins σ H s'→Q (.bool o.isSome) s'):wpAny (model X.prog X.w) A (compareOp .In u (.ref a)) Q E s:=by
 rcases g with g | ⟨ha,⟨b,ks,rfl,hb⟩,rfl⟩
 ·exact Wx hu I g ry h
 ·exact Wx hu (I.Zw ha) (Mm.re ha hb) ry fun s' I'=>h s' (I'.reT ha)
theorem Mp {Q:Value→Shared→Prop} (hu:A.units + 1 < cLine) (I:Inv X pins σ H s) (g:Mm H a y o) (ry:RelV y u) (h:∀s',Inv X pins σ H s'→Q (.bool (!o.isSome)) s'):wpAny (model X.prog X.w) A (compareOp .NotIn u (.ref a)) Q E s:=by
 rcases g with g | ⟨ha,⟨b,ks,rfl,hb⟩,rfl⟩
 ·exact GD hu I g ry h
 ·exact GD hu (I.Zw ha) (Mm.re ha hb) ry fun s' I'=>h s' (I'.reT ha)
theorem Ur (hu:X.A.units + 1 < cLine):gF X (compareOp .In) (fun y x H Q=>∃a o,x=.ref a∧Mm H a y o∧Q (.bl o.isSome) H):=by
 intro pins s σ H x y v u Q I rx ry h
 obtain ⟨a,o,rfl,g,q⟩:=h
 cases ry
 exact W7 hu I g rx fun s' I'=>⟨.bl _,H,I',rfl,q⟩
theorem JF (hu:X.A.units + 1 < cLine):gF X (compareOp .NotIn) (fun y x H Q=>∃a o,x=.ref a∧Mm H a y o∧Q (.bl (!o.isSome)) H):=by
 intro pins s σ H x y v u Q I rx ry h
 obtain ⟨a,o,rfl,g,q⟩:=h
 cases ry
 exact Mp hu I g rx fun s' I'=>⟨.bl _,H,I',rfl,q⟩
theorem Qs (hu:X.A.units + 1 < cLine):Kc X (fun x y H Q=>∃a v,x=.ref a∧oH H a y (some v)∧Q v H):=by
 intro value slice pins s σ H x y v u Q I rx ry h hs
 obtain ⟨a,z,rfl,g,q⟩:=h
 cases rx
 have hT:=An I g
 have h2:wpAny (model X.prog X.w) X.A (getItem (.ref a) u) (EP X pins σ Q) X.xe s:=Je hu I g ry fun w' s' I' r'=>⟨z,H,I',r',q⟩
 unfold subscriptTail
 refine wpAny_bind ?_
 rw [getitemInPython_of_ne hT.not_modules]
 refine wpAny_bind (wpAny_specialOf hT PySem.F.slot_dict_getitem.lookup ?_)
 have fin:wpAny (model X.prog X.w) X.A (subscripted slice false (.ref a) u) (fun r s₃=>wpAny (model X.prog X.w) X.A (letTemporaryGo value (.ref a) r >>= fun _=>pure r) (EP X pins σ Q) X.xe s₃) X.xe s:=by
  rw [hs]
  exact wpAny_operating (wpAny_mono h2 (fun r s₃ h₃=>wpAny_bind (wpAny_letTemporaryGo (wpAny_pure h₃))) fun _ _ x=>x)
 first
  | exact wpAny_pure (wpAny_bind fin)
  | exact wpAny_bind (wpAny_pure (wpAny_bind fin))
  | exact wpAny_bind fin
end
noncomputable def lU {κ:Type} [DecidableEq κ] (f:PyData→Option κ) (k:κ):List (PyData×PyData)→Option PyData
 | []=>none
 | p::r=>if f p.1=some k then some p.2 else lU f k r
noncomputable def lV (kvs:List (PyData×PyData)) (d:PyData):Option (Option PyData):=match cN d with
 | some k=>if (cC cN kvs).isSome then some (lU cN k kvs) else none
 | none=>match lQ d with
  | some ks=>if (cC lQ kvs).isSome then some (lU lQ ks kvs) else none
  | none=>none
theorem uM {κ:Type} [DecidableEq κ] {f:PyData→Option κ} {k:κ} {E:Hp}:∀{kvs:List (PyData×PyData)} {ks:List κ} {vs:List V},cC f kvs=some ks→pG E kvs vs→
  (∃d v,lU f k kvs=some d∧oG (ks.zip vs) k=some v∧RZ E d v)∨(lU f k kvs=none∧oG (ks.zip vs) k=none)
 | [],ks,vs,h,r=>by
  cases h
  cases (show vs=[] from r)
  exact .inr ⟨rfl,rfl⟩
 | (p,d)::kvs,ks,vs,h,r=>by
  unfold cC at h
  split at h
  ·rename_i k' t h1 h2
   cases h
   obtain ⟨v,w,rfl,q,s⟩:=r
   by_cases e:k'=k
   ·subst e
    refine .inl ⟨d,v,?_,?_,q⟩
    ·unfold lU; rw [if_pos h1]
    ·exact p6 (p:=(k',v)) rfl
   ·have e1:lU f k ((p,d)::kvs)=lU f k kvs:=by
     show (if f p=some k then some d else lU f k kvs)=_
     rw [if_neg]
     intro z
     rw [h1] at z
     exact e (Option.some.inj z)
    have e2:oG ((k'::t).zip (v::w)) k=oG (t.zip w) k:=p7 (p:=(k',v)) e
    rw [e1,e2]
    exact uM h2 s
  ·cases h
theorem jW {κ:Type} {f:PyData→Option κ}:∀{kvs:List (PyData×PyData)} {ks:List κ},cC f kvs=some ks→ks.length=kvs.length
 | [],ks,h=>by cases h; rfl
 | p::kvs,ks,h=>by
  unfold cC at h
  split at h
  ·rename_i k' t h1 h2
   cases h
   rw [List.length_cons,List.length_cons,jW h2]
  ·cases h
theorem Mq {E:Hp} {d:PyData} {k:Key} {v:V} (h:cN d=some k) (r:RZ E d v):v=kV k:=by
 cases d <;> first | (cases h; exact r) | cases h
theorem Mr {d:PyData} {k:Key} {ks:List Key} (h:cN d=some k) (g:lQ d=some ks):False:=by
 cases d <;> first | (cases h; done) | (cases g; done)
section
variable {K:PySem.W.Frag} {Z Θ:List Addr} {env:En} {C:Ce} {σ:St} {H:Hp} {x y:V}
theorem jX {kvs:List (PyData×PyData)} {ks:List Key} {js:List (List Key)} (h:cC cN kvs=some ks) (g:cC lQ kvs=some js):kvs=[]:=by
 cases kvs with
 | nil=>rfl
 | cons p r=>
  unfold cC at h g
  split at h
  ·rename_i h1 h2
   split at g
   ·rename_i h3 h4
    exact (Mr h1 h3).elim
   ·cases g
  ·cases h
theorem dY.get {kvs:List (PyData×PyData)} {d:PyData} {o:Option PyData} (h:dY Z Θ env σ H (.dict kvs) x) (hy:dY Z Θ env σ H d y) (e:lV kvs d=some o):
  ∃a r,x=.ref a∧Mm H a y r∧((∃v,r=some v∧∃d',o=some d'∧RZ (er (aK Z Θ env σ) H) d' v∧oH H a y (some v))∨(r=none∧o=none)):=by
 obtain ⟨a,vs,rfl,dt,rd⟩:=h.dct
 unfold lV at e
 split at e
 ·rename_i k hk
  split at e
  ·rename_i hs
   cases e
   have yk:y=kV k:=by
    cases d <;> first | (cases hk; exact hy) | cases hk
   have dk:∃ks,cC cN kvs=some ks∧H a=some (.dK (ks.zip vs)):=by
    rcases dt with h | ⟨ks,⟨ne,h2⟩,_⟩
    ·exact h
    ·obtain ⟨ks',h1⟩:=Option.isSome_iff_exists.mp hs
     exact absurd (jX h1 h2) ne
   obtain ⟨ks,h1,ha⟩:=dk
   have g:=oH.k (k:=k) ha
   rw [←yk] at g
   rcases uM (k:=k) h1 rd with ⟨d',v,e1,e2,r⟩ | ⟨e1,e2⟩
   ·rw [e2] at g
    exact ⟨a,some v,rfl,.inl g,.inl ⟨v,rfl,d',e1,r,g⟩⟩
   ·rw [e2] at g
    exact ⟨a,none,rfl,.inl g,.inr ⟨rfl,e1⟩⟩
  ·cases e
 ·split at e
  ·rename_i ks hks
   split at e
   ·rename_i hs
    cases e
    obtain ⟨b,hb,rfl⟩:∃b,H b=some (.tup (ks.map kV))∧y=.ref b:=by
     cases d <;> first | cases hks | skip
     obtain ⟨b,ws,rfl,hb,r⟩:=hy.tup
     rw [iG hks r] at hb
     exact ⟨b,hb,rfl⟩
    rcases dt with ⟨js,h1,ha⟩ | ⟨js,⟨ne,h1⟩,ha⟩
    ·obtain ⟨js',h2⟩:=Option.isSome_iff_exists.mp hs
     have:=jX h1 h2
     subst this
     cases h1
     exact ⟨a,none,rfl,.inr ⟨ha,⟨b,ks,rfl,hb⟩,rfl⟩,.inr ⟨rfl,rfl⟩⟩
    ·have g:=oH.t (k:=ks) ha hb
     rcases uM (k:=ks) h1 rd with ⟨d',v,e1,e2,r⟩ | ⟨e1,e2⟩
     ·rw [e2] at g
      exact ⟨a,some v,rfl,.inl g,.inl ⟨v,rfl,d',e1,r,g⟩⟩
     ·rw [e2] at g
      exact ⟨a,none,rfl,.inl g,.inr ⟨rfl,e1⟩⟩
   ·cases e
  ·cases e
end
noncomputable def inD (d:PyData) (ds:List PyData):Bool:=ds.any fun e=>KZ (toV e) (toV d)
noncomputable def inB (d:PyData):PyData→Option Bool
 | .list ds=>if d7 d&&ds.all d7 then some (inD d ds) else none
 | .tuple ds=>if d7 d&&ds.all d7 then some (inD d ds) else none
 | .dict kvs=>(lV kvs d).map (·.isSome)
 | _=>none
noncomputable def jY (d e:PyData):Option Vl:=(inB d e).map fun b=>.im (.bool b)
noncomputable def jm (d e:PyData):Option Vl:=(inB d e).map fun b=>.im (.bool (!b))
noncomputable def W8 (K:PySem.W.Frag):R2:=fun x y H Q=>Yd K false x y H Q∨∃a o,y=.ref a∧Mm H a x o∧Q (.bl o.isSome) H
noncomputable def Hg (K:PySem.W.Frag):R2:=fun x y H Q=>Yd K true x y H Q∨∃a o,y=.ref a∧Mm H a x o∧Q (.bl (!o.isSome)) H
theorem kZ {X:Cx} (hu:X.A.units + 1 < cLine):gF X (compareOp .In) (W8 X.K):=Jc.or (Ur hu)
theorem rE {X:Cx} (hu:X.A.units + 1 < cLine):gF X (compareOp .NotIn) (Hg X.K):=yM.or (JF hu)
theorem rF {d:PyData} (f:d7 d=true):jQ (toV d)=true:=by
 cases d <;> first | rfl | cases f
theorem R4 {d:PyData} {ds:List PyData}:inV (toV d) (ds.map toV)=inD d ds:=by
 unfold inV inD
 rw [List.any_map]
 rfl
theorem Hh {ds:List PyData} (f:ds.all d7=true):(ds.map toV).all jQ=true:=by
 rw [List.all_map,List.all_eq_true]
 intro d hd
 exact rF (List.all_eq_true.mp f d hd)
theorem Bh {K:PySem.W.Frag} {Z Θ:List Addr} {env:En} {σ:St} {H:Hp} {x y:V} {dx dy:PyData} {b:Bool} (bx:dY Z Θ env σ H dx x) (jV:dY Z Θ env σ H dy y) (e:inB dx dy=some b):
  (∃p xs,y=.ref p∧(cZ K H p xs∨ig K H p xs)∧jQ x=true∧xs.all jQ=true∧inV x xs=b)∨∃a o,y=.ref a∧Mm H a x o∧o.isSome=b:=by
 unfold inB at e
 split at e
 ·split at e
  ·rename_i ds hf
   rw [Bool.and_eq_true] at hf
   cases e
   obtain ⟨a,vs,rfl,ha,r⟩:=jV.lst
   rw [uK hf.2 r] at ha
   rw [bx.flat hf.1]
   exact .inl ⟨a,_,rfl,.inl (cZ.of ha),rF hf.1,Hh hf.2,R4⟩
  ·cases e
 ·split at e
  ·rename_i ds hf
   rw [Bool.and_eq_true] at hf
   cases e
   obtain ⟨a,vs,rfl,ha,r⟩:=jV.tup
   rw [uK hf.2 r] at ha
   rw [bx.flat hf.1]
   exact .inl ⟨a,_,rfl,.inr (ig.of ha),rF hf.1,Hh hf.2,R4⟩
  ·cases e
 ·rename_i kvs
  cases hl:lV kvs dx with
  | none=>rw [hl] at e; cases e
  | some o=>
   rw [hl] at e
   cases e
   obtain ⟨a,r,rfl,g,q⟩:=jV.get bx hl
   refine .inr ⟨a,r,rfl,g,?_⟩
   rcases q with ⟨v,rfl,d',rfl,_⟩ | ⟨rfl,rfl⟩ <;> rfl
 ·cases e
theorem qx {K:PySem.W.Frag}:oK K (W8 K) jY:=by
 intro Z Θ env C σ H x y dx dy res S bx jV e Q q
 unfold jY at e
 cases h:inB dx dy with
 | none=>rw [h] at e; cases e
 | some b=>
  rw [h] at e
  cases e
  have fin:=q (.bl b) H (bK.refl _ _) (bu S rfl rfl)
  rcases Bh (K:=K) bx jV h with ⟨p,xs,e1,e2,e3,e4,e5⟩ | ⟨a,o,e1,e2,e3⟩
  ·rw [←e5] at fin
   exact .inl ⟨p,xs,e1,e2,e3,e4,fin⟩
  ·rw [←e3] at fin
   exact .inr ⟨a,o,e1,e2,fin⟩
theorem uN {K:PySem.W.Frag}:oK K (Hg K) jm:=by
 intro Z Θ env C σ H x y dx dy res S bx jV e Q q
 unfold jm at e
 cases h:inB dx dy with
 | none=>rw [h] at e; cases e
 | some b=>
  rw [h] at e
  cases e
  have fin:=q (.bl (!b)) H (bK.refl _ _) (bu S rfl rfl)
  rcases Bh (K:=K) bx jV h with ⟨p,xs,e1,e2,e3,e4,e5⟩ | ⟨a,o,e1,e2,e3⟩
  ·rw [←e5] at fin
   exact .inl ⟨p,xs,e1,e2,e3,e4,fin⟩
  ·rw [←e3] at fin
   exact .inr ⟨a,o,e1,e2,fin⟩
noncomputable def Qt:PyData→PyData→Option PyData
 | .list ds,.int i=>iD ds i
 | .tuple ds,.int i=>iD ds i
 | .str z,.int i=>if z.length≤LIM then (iD z.cps.toList i).map fun c=>.str ⟨#[c]⟩ else none
 | .dict kvs,d=>match lV kvs d with
  | some (some e)=>some e
  | _=>none
 | _,_=>none
noncomputable def aZ (d e:PyData):Option Vl:=(Qt d e).map .im
noncomputable def W9 (K:PySem.W.Frag):R2:=fun x y H Q=>rIx K x y H Q∨∃a v,x=.ref a∧oH H a y (some v)∧Q v H
theorem aU {X:Cx} (hu:X.A.units + 1 < cLine):Kc X (W9 X.K):=T4.or (Qs hu)
theorem Hi {E:Hp} {ds:List PyData} {vs:List V} {i:Int} {d:PyData} (r:eY E ds vs) (e:iD ds i=some d):∃v,iD vs i=some v∧RZ E d v:=by
 unfold iD at e ⊢
 rw [bI r]
 cases h:Ea ds.length i with
 | none=>rw [h] at e; cases e
 | some j=>
  rw [h] at e
  exact m5 r e
theorem bD {K:PySem.W.Frag}:oK K (W9 K) aZ:=by
 intro Z Θ env C σ H x y dx dy res S bx jV e Q q
 unfold aZ at e
 cases h:Qt dx dy with
 | none=>rw [h] at e; cases e
 | some d=>
  rw [h] at e
  cases e
  unfold Qt at h
  split at h
  ·obtain ⟨a,vs,rfl,ha,r⟩:=bx.lst
   cases jV.int
   obtain ⟨v,e1,r1⟩:=Hi r h
   exact .inl (.inl ⟨a,vs,_,v,rfl,rfl,cZ.of ha,e1,q _ _ (bK.refl _ _) ⟨S,r1⟩⟩)
  ·obtain ⟨a,vs,rfl,ha,r⟩:=bx.tup
   cases jV.int
   obtain ⟨v,e1,r1⟩:=Hi r h
   exact .inl (.inr (.inl ⟨a,vs,_,v,rfl,rfl,ig.of ha,e1,q _ _ (bK.refl _ _) ⟨S,r1⟩⟩))
  ·split at h
   ·rename_i z i hz
    cases bx.str
    cases jV.int
    cases hc:iD z.cps.toList i with
    | none=>rw [hc] at h; cases h
    | some c=>
     rw [hc] at h
     cases h
     exact .inl (.inr (.inr ⟨z,i,c,rfl,rfl,dH hz,hc,q _ _ (bK.refl _ _) (bu S rfl rfl)⟩))
   ·cases h
  ·split at h
   ·rename_i kvs e' hl
    cases h
    obtain ⟨a,r,rfl,g,hq⟩:=bx.get jV hl
    rcases hq with ⟨v,rfl,d',e1,r1,g1⟩ | ⟨_,e1⟩
    ·cases e1
     exact .inr ⟨a,v,rfl,g1,q _ _ (bK.refl _ _) ⟨S,r1⟩⟩
    ·cases e1
   ·cases h
  ·cases h
end L2
namespace L2
open PySem PySem.Spec PyProof.Rows PySem.W
noncomputable def truD:PyData→Option Bool
 | .none=>some false
 | .bool b=>some b
 | .int i=>some (i != 0)
 | .str x=>if x.length≤LIM then some ((x.length:Int) != 0) else none
 | .list ds=>some (!ds.isEmpty)
 | .tuple ds=>some (!ds.isEmpty)
 | .dict kvs=>if (cC cN kvs).isSome then some (!kvs.isEmpty) else none
noncomputable def fTru (f:FB):FT:=fun env C=>match f env C with
 | some (d,_,C')=>match truD d with
  | some b=>some (b,C')
  | none=>none
 | none=>none
noncomputable def fTst (f:FE):FT:=fun env C=>match f env C with
 | some (.im (.bool b),_,C')=>some (b,C')
 | _=>none
noncomputable def qy (f:FT):FT:=fun env C=>match f env C with
 | some (b,C')=>some (!b,C')
 | none=>none
noncomputable def ir (f g:FT):FT:=fun env C=>match f env C with
 | some (true,C')=>g env C'
 | some (false,C')=>some (false,C')
 | none=>none
noncomputable def wB (f g:FT):FT:=fun env C=>match f env C with
 | some (true,C')=>some (true,C')
 | some (false,C')=>g env C'
 | none=>none
theorem Us {K:PySem.W.Frag} {Z Θ:List Addr} {env:En} {σ:St} {H:Hp} {x:V} {d:PyData} {b:Bool} (h:dY Z Θ env σ H d x) (e:truD d=some b):Tv K x H b:=by
 cases d with
 | none=>cases e; cases (show x=_ from h); rfl
 | bool c=>cases e; cases (show x=_ from h); rfl
 | int i=>cases e; cases (show x=_ from h); rfl
 | str z=>
  simp only [truD] at e
  split at e
  ·rename_i hz; cases e; cases (show x=_ from h); exact ⟨dH hz,rfl⟩
  ·cases e
 | list ds=>
  cases e
  obtain ⟨a,vs,rfl,ha,r⟩:=h.lst
  refine .inl ⟨vs,cZ.of ha,?_⟩
  have:=bI r
  cases ds <;> cases vs <;> first | rfl | cases this
 | tuple ds=>
  cases e
  obtain ⟨a,vs,rfl,ha,r⟩:=h.tup
  refine .inr (.inl ⟨vs,ig.of ha,?_⟩)
  have:=bI r
  cases ds <;> cases vs <;> first | rfl | cases this
 | dict kvs=>
  simp only [truD] at e
  split at e
  ·rename_i hs
   cases e
   obtain ⟨a,vs,rfl,da,r⟩:=h.dct
   rcases da with ⟨ks,h1,ha⟩ | ⟨ks,⟨ne,h2⟩,ha⟩
   ·refine .inr (.inr ⟨_,ha,?_⟩)
    have l1:=jW h1
    have l2:=yV r
    cases kvs <;> cases ks <;> cases vs <;> first | rfl | cases l1 | cases l2
   ·obtain ⟨ks',h1⟩:=Option.isSome_iff_exists.mp hs
    exact absurd (jX h1 h2) ne
  ·cases e
section
variable {X:Cx} {a b:Expr} {pos:Pos}
theorem gR {f:FB} (h:PE X a (kY X.K f)) (he:∀whole,isTrue a X.env whole=(do let v ←whole; standAt a.pos; holding [v] (truthy v)):=by intro _; rfl):PT X a (mO X.K (fTru f)):=
 (KH h he).weak fun σ H Q aP=>by
  obtain ⟨Z,Θ,env,C,b,C',S,hf,q⟩:=aP
  unfold fTru at hf
  split at hf
  ·rename_i d e1 C1 h1
   split at hf
   ·rename_i b' hb
    cases hf
    exact ⟨Z,Θ,env,C,d,e1,C',S,h1,fun v H' k f S' bo=>⟨b,Us bo hb,q H' k (S.go k S'.cell)⟩⟩
   ·cases hf
  ·cases hf
theorem Bj {K:PySem.W.Frag} {t:TE} {f:FE} (w:∀σ H Q,tE K f σ H Q→t σ H Q):∀σ H Q,mO K (fTst f) σ H Q→Kz t σ H Q:=by
 rintro σ H Q ⟨Z,Θ,env,C,b,C',S,hf,q⟩
 unfold fTst at hf
 split at hf
 ·rename_i b' e1 C1 h1
  cases hf
  refine w _ _ _ ⟨Z,Θ,env,C,.im (.bool b),e1,C',S,h1,fun v H' k f R=>?_⟩
  obtain ⟨S',r⟩:=R
  exact ⟨b,r,q H' k (S.go k S'.cell)⟩
 ·cases hf
theorem bY {o:CmpOp} {r:R2} {op:PyData→PyData→Option Vl} {fa fb:FB} (ho:gF X (compareOp o) r) (L:oK X.K r op) (ha:PE X a (kY X.K fa)) (hb:PE X b (kY X.K fb)) (hm:behindInMarks o b=false):
  PT X (.Compare a [o] [b] pos) (mO X.K (fTst (aC op fa fb))):=(Pg ho ha hb hm).weak (Bj (qw L))
theorem uO {f:FT} (h:PT X a (mO X.K f)):PT X (.UnaryOp .Not a pos) (mO X.K (qy f)):=(SX h).weak fun σ H Q aP=>by
 obtain ⟨Z,Θ,env,C,b,C',S,hf,q⟩:=aP
 unfold qy at hf
 split at hf
 ·rename_i b' C1 h1
  cases hf
  exact ⟨Z,Θ,env,C,b',C',S,h1,q⟩
 ·cases hf
theorem Ms {K:PySem.W.Frag} {f g:FT}:∀σ H Q,mO K (ir f g) σ H Q→VR (mO K f) (mO K g) σ H Q:=by
 rintro σ H Q ⟨Z,Θ,env,C,b,C',S,hf,q⟩
 unfold ir at hf
 split at hf
 ·rename_i C1 h1
  exact ⟨Z,Θ,env,C,true,C1,S,h1,fun H1 k1 S1=>wg ⟨Z,Θ,env,C1,b,C',S1,hf,fun H2 k2 S2=>q H2 (k1.trans k2) S2⟩⟩
 ·rename_i C1 h1
  cases hf
  exact ⟨Z,Θ,env,C,false,C',S,h1,fun H1 k1 S1=>vZ (q H1 k1 S1)⟩
 ·cases hf
theorem Qu {K:PySem.W.Frag} {f g:FT}:∀σ H Q,mO K (wB f g) σ H Q→tOr (mO K f) (mO K g) σ H Q:=by
 rintro σ H Q ⟨Z,Θ,env,C,b,C',S,hf,q⟩
 unfold wB at hf
 split at hf
 ·rename_i C1 h1
  cases hf
  exact ⟨Z,Θ,env,C,true,C',S,h1,fun H1 k1 S1=>wg (q H1 k1 S1)⟩
 ·rename_i C1 h1
  exact ⟨Z,Θ,env,C,false,C1,S,h1,fun H1 k1 S1=>vZ ⟨Z,Θ,env,C1,b,C',S1,hf,fun H2 k2 S2=>q H2 (k1.trans k2) S2⟩⟩
 ·cases hf
variable {rest:List Expr}
theorem qz {f:FT} (h:PT X a (mO X.K f)):PW X (.BoolOp .And [a] pos) (mO X.K f):=pw_and1 h
theorem zg {f:FT} (h:PT X a (mO X.K f)):PW X (.BoolOp .Or [a] pos) (mO X.K f):=pw_or1 h
theorem lg {f g:FT} (h:PT X a (mO X.K f)) (hb:PW X (.BoolOp .And (b::rest) pos) (mO X.K g)):PW X (.BoolOp .And (a::b::rest) pos) (mO X.K (ir f g)):=(pw_and h hb).weak Ms
theorem Bm {f g:FT} (h:PT X a (mO X.K f)) (hb:PW X (.BoolOp .Or (b::rest) pos) (mO X.K g)):PW X (.BoolOp .Or (a::b::rest) pos) (mO X.K (wB f g)):=(pw_or h hb).weak Qu
end
noncomputable def Bo (op op':PyData→PyData→Option Vl) (fa fb fc:FB):FE:=fun env C=>match fa env C with
 | some (x,e1,C1)=>match fb e1 C1 with
  | some (y,e2,C2)=>match op x y with
   | some (.im (.bool true))=>match fc e2 C2 with
    | some (z,e3,C3)=>match op' y z with
     | some (.im (.bool b))=>some (.im (.bool b),env,C3)
     | _=>none
    | none=>none
   | some (.im (.bool false))=>some (.im (.bool false),env,C2)
   | _=>none
  | none=>none
 | none=>none
theorem Bp {K:PySem.W.Frag} {r r':R2} {op op':PyData→PyData→Option Vl} (L:oK K r op) (L':oK K r' op') {fa fb fc:FB}:∀σ H Q,tE K (Bo op op' fa fb fc) σ H Q→DG r r' (kY K fa) (kY K fb) (kY K fc) σ H Q:=by
 rintro σ H Q ⟨Z,Θ,env,C,res,env',C',S,hf,q⟩
 unfold Bo at hf
 split at hf
 ·rename_i x e1 C1 h1
  split at hf
  ·rename_i y e2 C2 h2
   refine ⟨Z,Θ,env,C,x,e1,C1,S,h1,fun v H1 k1 f1 S1 b1=>⟨Z,Θ,e1,C1,y,e2,C2,S1,h2,fun u H2 k2 f2 S2 b2=>?_⟩⟩
   split at hf
   ·rename_i h3
    split at hf
    ·rename_i z e3 C3 h4
     split at hf
     ·rename_i b h5
      cases hf
      refine L Z Θ e2 C2 σ H2 v u x y _ S2 (b1.go S1 k2 f2) b2 h3 _ fun w H3 k3 R=>⟨true,R.2,wg ⟨Z,Θ,e2,C2,z,e3,C',R.1,h4,fun w2 H4 k4 f4 S4 b4=>?_⟩⟩
      refine L' Z Θ e3 C' σ H4 u w2 y z _ S4 ((b2.go S2 k3 (Fz.refl _)).go R.1 k4 f4) b4 h5 Q fun w3 H5 k5 R5=>?_
      have k:=(((k1.trans k2).trans k3).trans k4).trans k5
      exact q w3 H5 k (Fz.refl _) ⟨S.go k R5.1.cell,R5.2⟩
     ·cases hf
    ·cases hf
   ·rename_i h3
    cases hf
    refine L Z Θ e2 C' σ H2 v u x y _ S2 (b1.go S1 k2 f2) b2 h3 _ fun w H3 k3 R=>⟨false,R.2,vZ ?_⟩
    have k:=(k1.trans k2).trans k3
    exact q _ H3 k (Fz.refl _) ⟨S.go k R.1.cell,rfl⟩
   ·cases hf
  ·cases hf
 ·cases hf
section
variable {X:Cx} {a b c:Expr} {pos:Pos} {r r':R2} {o o':CmpOp} {op op':PyData→PyData→Option Vl} {fa fb fc:FB}
theorem Ut (ho:gF X (compareOp o) r) (L:oK X.K r op) (ho':gF X (compareOp o') r') (L':oK X.K r' op') (ha:PE X a (kY X.K fa)) (hb:PE X b (kY X.K fb)) (hc:PE X c (kY X.K fc))
  (hm:lastMarks [o,o'] [b,c]=false:=by with_unfolding_all rfl):PE X (.Compare a [o,o'] [b,c] pos) (tE X.K (Bo op op' fa fb fc)):=(KC ho ho' ha hb hc hm).weak (Bp L L')
theorem Uu (ho:gF X (compareOp o) r) (L:oK X.K r op) (ho':gF X (compareOp o') r') (L':oK X.K r' op') (ha:PE X a (kY X.K fa)) (hb:PE X b (kY X.K fb)) (hc:PE X c (kY X.K fc))
  (hm:lastMarks [o,o'] [b,c]=false:=by with_unfolding_all rfl):PT X (.Compare a [o,o'] [b,c] pos) (mO X.K (fTst (Bo op op' fa fb fc))):=(KD ho ho' ha hb hc hm).weak (Bj (Bp L L'))
end
noncomputable def ni (f g:FE):FE:=fun env C=>match f env C with
 | some (.im (.bool true),_,C')=>g env C'
 | some (.im (.bool false),_,C')=>some (.im (.bool false),env,C')
 | _=>none
noncomputable def Hj (f:FE):FE:=fun env C=>match f env C with
 | some (.im (.bool b),_,C')=>some (.im (.bool (!b)),env,C')
 | _=>none
noncomputable def uP (c:FT) (f g:FE):FE:=fun env C=>match c env C with
 | some (true,C')=>f env C'
 | some (false,C')=>g env C'
 | none=>none
noncomputable def fNeg (f:FB):FE:=fun env C=>match f env C with
 | some (.int i,_,C')=>some (.im (.int (-i)),env,C')
 | _=>none
section
variable {X:Cx} {a b c:Expr} {pos:Pos} {rest:List Expr}
theorem uQ {o} {f:FE} (h:PE X a (tE X.K f)):PE X (.BoolOp o [a] pos) (tE X.K f):=S7 h
theorem rG {f g:FE} (ha:PE X a (tE X.K f)) (hb:PE X (.BoolOp .And (b::rest) pos) (tE X.K g)):PE X (.BoolOp .And (a::b::rest) pos) (tE X.K (ni f g)):=(S8 ha hb).weak fun σ H Q aP=>by
 obtain ⟨Z,Θ,env,C,r,env',C',S,hf,q⟩:=aP
 unfold ni at hf
 split at hf
 ·rename_i e1 C1 h1
  refine ⟨Z,Θ,env,C,_,e1,C1,S,h1,fun v H1 k1 f1 R1=>⟨true,R1.2,wg ⟨Z,Θ,env,C1,r,env',C',S.go k1 R1.1.cell,hf,fun w H2 k2 f2 R2=>q w H2 (k1.trans k2) f2 (R2.from k1)⟩⟩⟩
 ·rename_i e1 C1 h1
  cases hf
  exact ⟨Z,Θ,env,C,_,e1,C',S,h1,fun v H1 k1 f1 R1=>⟨false,R1.2,vZ (q _ H1 k1 (Fz.refl _) ⟨S.go k1 R1.1.cell,rfl⟩)⟩⟩
 ·cases hf
theorem Uv {f:FE} (ha:PE X a (tE X.K f)):PE X (.UnaryOp .Not a pos) (tE X.K (Hj f)):=(S9 ha).weak fun σ H Q aP=>by
 obtain ⟨Z,Θ,env,C,r,env',C',S,hf,q⟩:=aP
 unfold Hj at hf
 split at hf
 ·rename_i b e1 C1 h1
  cases hf
  exact ⟨Z,Θ,env,C,_,e1,C',S,h1,fun v H1 k1 f1 R1=>⟨b,R1.2,q _ H1 k1 (Fz.refl _) ⟨S.go k1 R1.1.cell,rfl⟩⟩⟩
 ·cases hf
theorem Bq {t:FT} {f g:FE} (hc:PT X c (mO X.K t)) (ha:PE X a (tE X.K f)) (hb:PE X b (tE X.K g)):PE X (.IfExp c a b pos) (tE X.K (uP t f g)):=(Kl hc ha hb).weak fun σ H Q aP=>by
 obtain ⟨Z,Θ,env,C,r,env',C',S,hf,q⟩:=aP
 unfold uP at hf
 split at hf
 ·rename_i C1 h1
  exact ⟨Z,Θ,env,C,true,C1,S,h1,fun H1 k1 S1=>wg ⟨Z,Θ,env,C1,r,env',C',S1,hf,fun w H2 k2 f2 R2=>q w H2 (k1.trans k2) f2 (R2.from k1)⟩⟩
 ·rename_i C1 h1
  exact ⟨Z,Θ,env,C,false,C1,S,h1,fun H1 k1 S1=>vZ ⟨Z,Θ,env,C1,r,env',C',S1,hf,fun w H2 k2 f2 R2=>q w H2 (k1.trans k2) f2 (R2.from k1)⟩⟩
 ·cases hf
end
noncomputable def qC (K:PySem.W.Frag) (E:Hp) (Θ:List Addr):Vl→V→Prop
 | .im d,v=>RZ E d v
 | .ow _,_=>False
 | .ce n,v=>∃a,v=.ref a∧Θ[n]?=some a
 | .sc ns,v=>∃a,v=.ref a∧cZ K E a (ns.map V.int)
inductive gU (K:PySem.W.Frag) (E:Hp) (Θ:List Addr):List Vl→List V→Prop
 | nil:gU K E Θ [] []
 | cons {x:Vl} {v:V} {xs:List Vl} {vs:List V}:qC K E Θ x v→gU K E Θ xs vs→gU K E Θ (x::xs) (v::vs)
theorem qC.same {K:PySem.W.Frag} {E E':Hp} {Θ:List Addr} (s:aQ E E') {x:Vl} {v:V} (h:qC K E Θ x v):qC K E' Θ x v:=by
 cases x with
 | im d=>exact RZ.same s h
 | ow d=>exact h
 | ce n=>exact h
 | sc ns=>obtain ⟨a,e,q⟩:=h; exact ⟨a,e,s.seq q⟩
theorem gU.same {K:PySem.W.Frag} {E E':Hp} {Θ:List Addr} (s:aQ E E') {xs:List Vl} {vs:List V} (h:gU K E Θ xs vs):gU K E' Θ xs vs:=by
 induction h with
 | nil=>exact .nil
 | cons a _ ih=>exact .cons (a.same s) ih
noncomputable def Uw (K:PySem.W.Frag) (f:FA):TA:=fun σ H Q=>∃Z Θ env C xs env' C',Sm K Z Θ env C σ H∧f env C=some (xs,env',C')∧
 ∀vs H',bK Θ H H'→Fz env env'→Sm K Z Θ env' C' σ H'→gU K (er (aK Z Θ env' σ) H') Θ xs vs→Q vs H'
noncomputable def aNil:FA:=fun env C=>some ([],env,C)
noncomputable def aCons (f:FE) (g:FA):FA:=fun env C=>match f env C with
 | some (r,e1,C1)=>match g e1 C1 with
  | some (xs,e2,C2)=>some (still r::xs,e2,C2)
  | none=>none
 | none=>none
noncomputable def bNil:OJ:=fun env C=>some ([],env,C)
noncomputable def bCons (f:FB) (g:OJ):OJ:=fun env C=>match f env C with
 | some (d,e1,C1)=>match g e1 C1 with
  | some (ds,e2,C2)=>some (d::ds,e2,C2)
  | none=>none
 | none=>none
theorem Res.arg {K:PySem.W.Frag} {Z Θ:List Addr} {env:En} {C:Ce} {σ:St} {H H':Hp} {r:Vl} {v:V} (h:Res K Z Θ env C σ H H' r v):Sm K Z Θ env C σ H'∧qC K (er (aK Z Θ env σ) H') Θ (L2.still r) v:=by
 have g:=h.still
 cases r with
 | im d=>exact g
 | ow d=>exact g
 | ce n=>exact g
 | sc ns=>exact g
theorem EY.same {E E' T T':Hp} (s:aQ E E') (t:aQ T T') {ds:List PyData} {vs:List V} (h:EY E T ds vs):EY E' T' ds vs:=by
 induction h with
 | nil=>exact .nil
 | cons a _ ih=>exact .cons (a.same s t) ih
section
variable {X:Cx} {e:Expr} {es:List Expr} {pos:Pos}
theorem aF:PA X [] (Uw X.K aNil):=iM.weak fun σ H Q aP=>by
 obtain ⟨Z,Θ,env,C,xs,env',C',S,hf,q⟩:=aP
 cases hf
 exact q [] H (bK.refl _ _) (Fz.refl _) S .nil
theorem aa {f:FE} {g:FA} (h:PE X e (tE X.K f)) (hr:PA X es (Uw X.K g)) (hs:starEach (e::es) X.env=(false,eval e X.env)::starEach es X.env:=by rfl):PA X (e::es) (Uw X.K (aCons f g)):=(dz h hr hs).weak fun σ H Q aP=>by
 obtain ⟨Z,Θ,env,C,xs,env',C',S,hf,q⟩:=aP
 unfold aCons at hf
 split at hf
 ·rename_i r e1 C1 h1
  split at hf
  ·rename_i ys e2 C2 h2
   cases hf
   refine ⟨Z,Θ,env,C,r,e1,C1,S,h1,fun v H1 k1 f1 R1=>?_⟩
   obtain ⟨S1,a1⟩:=R1.arg
   exact ⟨Z,Θ,e1,C1,ys,env',C',S1,h2,fun vs H2 k2 f2 S2 a2=>q _ H2 (k1.trans k2) (f1.trans f2) S2 (.cons (a1.same (Mg S1 k2 f2)) a2)⟩
  ·cases hf
 ·cases hf
theorem cG:PA X [] (RT X.K bNil):=iM.weak fun σ H Q aP=>by
 obtain ⟨Z,Θ,env,C,xs,env',C',S,hf,q⟩:=aP
 cases hf
 exact q [] H (bK.refl _ _) (Fz.refl _) S .nil
theorem bL {f:FB} {g:OJ} (h:PE X e (kY X.K f)) (hr:PA X es (RT X.K g)) (hs:starEach (e::es) X.env=(false,eval e X.env)::starEach es X.env:=by rfl):PA X (e::es) (RT X.K (bCons f g)):=(dz h hr hs).weak fun σ H Q aP=>by
 obtain ⟨Z,Θ,env,C,xs,env',C',S,hf,q⟩:=aP
 unfold bCons at hf
 split at hf
 ·rename_i d e1 C1 h1
  split at hf
  ·rename_i ys e2 C2 h2
   cases hf
   exact ⟨Z,Θ,env,C,d,e1,C1,S,h1,fun v H1 k1 f1 S1 b1=>⟨Z,Θ,e1,C1,ys,env',C',S1,h2,fun vs H2 k2 f2 S2 b2=>q _ H2 (k1.trans k2) (f1.trans f2) S2 (.cons (b1.go S1 k2 f2) b2)⟩⟩
  ·cases hf
 ·cases hf
end
noncomputable def allIm:List Vl→Option (List PyData)
 | []=>some []
 | .im d::r=>match allIm r with
  | some ds=>some (d::ds)
  | none=>none
 | _=>none
theorem uR {K:PySem.W.Frag} {E:Hp} {Θ:List Addr}:∀{xs:List Vl} {ds:List PyData} {vs:List V},allIm xs=some ds→gU K E Θ xs vs→eY E ds vs
 | [],ds,vs,h,a=>by cases h; cases a; rfl
 | .im d::r,ds,vs,h,a=>by
  unfold allIm at h
  split at h
  ·rename_i t ht
   cases h
   cases a with
   | cons a1 a2=>exact ⟨_,_,rfl,a1,uR ht a2⟩
  ·cases h
 | .ow _::r,ds,vs,h,a=>by cases h
 | .ce _::r,ds,vs,h,a=>by cases h
 | .sc _::r,ds,vs,h,a=>by cases h
noncomputable def fLst (g:FA):FE:=fun env C=>match g env C with
 | some (xs,e',C')=>match allIm xs with
  | some ds=>if ds.length≤LIM then some (.ow (.list ds),e',C') else none
  | none=>none
 | none=>none
noncomputable def fTup (g:FA):FE:=fun env C=>match g env C with
 | some (xs,e',C')=>match allIm xs with
  | some ds=>if ds.length≤LIM then some (.im (.tuple ds),e',C') else none
  | none=>none
 | none=>none
section
variable {X:Cx} {e:Expr} {es:List Expr} {pos:Pos}
theorem cL {g:FA} (h:PA X es (Uw X.K g)):PE X (.List es pos) (tE X.K (fLst g)):=(TF h).weak fun σ H Q aP=>by
 obtain ⟨Z,Θ,env,C,r,env',C',S,hf,q⟩:=aP
 unfold fLst at hf
 split at hf
 ·rename_i xs e1 C1 h1
  split at hf
  ·rename_i ds hd
   split at hf
   ·rename_i hl
    cases hf
    refine ⟨Z,Θ,env,C,xs,env',C',S,h1,fun vs H1 k1 f1 S1 a1=>?_⟩
    have r:=uR hd a1
    exact ⟨by rw [bI r]; exact dH hl,fun p hp=>q _ _ (k1.trans (bK.upd hp)) f1 ((tR S1 r hp).from k1)⟩
   ·cases hf
  ·cases hf
 ·cases hf
theorem cO {x1} {g:FA} (h:PA X es (Uw X.K g)):PE X (.Tuple es x1 pos) (tE X.K (fTup g)):=(DQ h).weak fun σ H Q aP=>by
 obtain ⟨Z,Θ,env,C,r,env',C',S,hf,q⟩:=aP
 unfold fTup at hf
 split at hf
 ·rename_i xs e1 C1 h1
  split at hf
  ·rename_i ds hd
   split at hf
   ·rename_i hl
    cases hf
    refine ⟨Z,Θ,env,C,xs,env',C',S,h1,fun vs H1 k1 f1 S1 a1=>?_⟩
    have r:=uR hd a1
    exact ⟨by rw [bI r]; exact dH hl,fun p hp=>q _ _ (k1.trans (bK.upd hp)) f1 ((tU S1 r hp).from k1)⟩
   ·cases hf
  ·cases hf
 ·cases hf
noncomputable def Fe:FE:=fun env C=>some (.ow (.dict []),env,C)
theorem Mt:PE X (.Dict [] [] pos) (tE X.K Fe):=K6.weak fun σ H Q aP=>by
 obtain ⟨Z,Θ,env,C,r,env',C',S,hf,q⟩:=aP
 cases hf
 exact fun p hp=>q _ _ (bK.upd hp) (Fz.refl _) (Qo (vs:=[]) S (fun _ z=>nomatch z) (.inl ⟨[],rfl,aL⟩) rfl hp)
end
noncomputable def Mu (K:PySem.W.Frag) (r:List V→Hp→VK→Prop) (op:List PyData→Option Vl):Prop:=
 ∀(Z Θ:List Addr) (env:En) (C:Ce) (σ:St) (H:Hp) (xs:List V) (ds:List PyData) (res:Vl),Sm K Z Θ env C σ H→G8 Z Θ env σ H ds xs→op ds=some res→
  ∀Q:VK,(∀v H',bK Θ H H'→Res K Z Θ env C σ H H' res v→Q v H')→r xs H Q
noncomputable def fFun (op:List PyData→Option Vl) (g:OJ):FE:=fun env C=>match g env C with
 | some (ds,e',C')=>match op ds with
  | some r=>some (r,rst r env e',C')
  | none=>none
 | none=>none
theorem Br {K:PySem.W.Frag} {r:List V→Hp→VK→Prop} {op:List PyData→Option Vl} (L:Mu K r op) {g:OJ}:∀σ H Q,tE K (fFun op g) σ H Q→Zc r (RT K g) σ H Q:=by
 rintro σ H Q ⟨Z,Θ,env,C,res,env',C',S,hf,q⟩
 unfold fFun at hf
 split at hf
 ·rename_i ds e1 C1 h1
  split at hf
  ·rename_i r0 h2
   cases hf
   refine ⟨Z,Θ,env,C,ds,e1,C',S,h1,fun vs H1 k1 f1 S1 b1=>L Z Θ e1 C' σ H1 vs ds res S1 b1 h2 Q fun z H2 k2 R=>?_⟩
   exact q z H2 (k1.trans k2) (f1.rst res) ((R.from k1).rst S (k1.trans k2))
  ·cases hf
 ·cases hf
section
variable {X:Cx} {x:Str} {p pos:Pos} {e:Expr} {es:List Expr} {g:OJ} {id T:String} {r:List V→Hp→VK→Prop} {op:List PyData→Option Vl}
theorem fQ (hc:dZ X (.builtin id) r) (L:Mu X.K r op) (hg:Gl X x) (hm:X.mg x=none) (hv:bootBuiltins x=some (.builtin id)) (ha:PA X (e::es) (RT X.K g)) (hn:x≠"__name__":=by decide) (hdb:(x==("__debug__":Str))=false:=by decide)
  (he:starEach (e::es) X.env=(false,eval e X.env)::starEach es X.env:=by rfl) (hpl:(backTo pos (starEach es X.env)).any (·.1)=false:=by rfl):PE X (.Call (.Name x p) (e::es) [] pos) (tE X.K (fFun op g)):=(pW hc hg hm hv ha hn hdb he hpl).weak (Br L)
theorem jZ (hc:dZ X (.type T) r) (L:Mu X.K r op) (hg:Gl X x) (hm:X.mg x=none) (hv:bootBuiltins x=some (.type T)) (ha:PA X (e::es) (RT X.K g)) (hn:x≠"__name__":=by decide) (hdb:(x==("__debug__":Str))=false:=by decide)
  (he:starEach (e::es) X.env=(false,eval e X.env)::starEach es X.env:=by rfl) (hpl:(backTo pos (starEach es X.env)).any (·.1)=false:=by rfl):PE X (.Call (.Name x p) (e::es) [] pos) (tE X.K (fFun op g)):=(Jb hc hg hm hv ha hn hdb he hpl).weak (Br L)
end
noncomputable abbrev FN:=List Vl→Ce→Option (Vl×Ce)
noncomputable def spT (K:PySem.W.Frag) (f:FN):Sp:=fun vs H Q _=>∃Z Θ C xs r C',Sm K Z Θ [] C [] H∧gU K (er (aK Z Θ [] []) H) Θ xs vs∧f xs C=some (r,C')∧
 ∀v H',bK Θ H H'→Res K Z Θ [] C' [] H H' r v→Q v H'
noncomputable def fCal (f:FN) (g:FA):FE:=fun env C=>match g env C with
 | some (xs,e',C1)=>match f xs C1 with
  | some (r,C2)=>some (r,rst r env e',C2)
  | none=>none
 | none=>none
theorem gW {P P':List Addr} {H:Hp} (h:∀a,a∈P ↔ a∈P'):er P H=er P' H:=by
 funext b
 unfold er
 by_cases hb:b∈P
 ·rw [if_pos hb,if_pos ((h b).mp hb)]
 ·rw [if_neg hb,if_neg (fun z=>hb ((h b).mpr z))]
theorem zj {Z Θ:List Addr} {env:En} {σ:St} (a:Addr):a∈aK (Z++aV env σ) Θ [] [] ↔ a∈aK Z Θ env σ:=by
 simp only [aK,aV,List.mem_append,List.append_nil]
 constructor
 ·rintro ((h | h) | h)
  ·exact .inl h
  ·exact .inr (.inr h)
  ·exact .inr (.inl h)
 ·rintro (h | h | h)
  ·exact .inl (.inl h)
  ·exact .inr h
  ·exact .inl (.inr h)
section
variable {K:PySem.W.Frag} {Z Θ:List Addr} {env:En} {C C':Ce} {σ:St} {H H':Hp} {a:Addr}
theorem Sm.uT (S:Sm K Z Θ env C σ H) (ha:H a=none) (k:bK Θ H H') (h':NT (H' a)) (c:dX Θ C' H'):Sm K (a::Z) Θ env C' σ H':=by
 have sm:aQ (er (aK Z Θ env σ) H) (er (aK (a::Z) Θ env σ) H'):=fB k S.G7 fun b m=>by
  rcases List.mem_cons.mp m with rfl | m
  ·exact .inr ha
  ·exact .inl m
 refine ⟨S.len,List.nodup_cons.mpr ⟨fun m=>S.yW a m ha,S.nd⟩,fun b m=>?_,fun i x e=>?_,c⟩
 ·rcases List.mem_cons.mp m with rfl | m
  ·exact h'
  ·obtain ⟨u,e,n⟩:=S.dom b m
   exact ⟨u,k.keep _ _ e fun z=>by
    have h:=S.nd
    rw [List.nodup_append] at h
    exact h.2.2 b m b (List.mem_append_left _ z) rfl,n⟩
 ·obtain ⟨v,e1,r⟩:=S.slot i x e
  refine ⟨v,e1,r.same sm fun d b ex ev o' ho=>k.keep _ _ ho ?_⟩
  subst ex ev
  exact (S.eZ (cg.mpr ⟨i,d,e,e1⟩)).2
theorem Sm.bare (S:Sm K Z Θ env C σ H):Sm K (Z++aV env σ) Θ [] C [] H:=by
 refine ⟨rfl,?_,fun b m=>?_,fun i x e=>by simp at e,S.cell⟩
 ·have h:=S.nd
  show ((Z++aV env σ)++(Θ++[])).Nodup
  rw [List.append_nil,List.append_assoc]
  have p:(Z++(Θ++aV env σ)).Perm (Z++(aV env σ++Θ)):=List.Perm.append_left Z List.perm_append_comm
  exact p.nodup h
 ·rcases List.mem_append.mp m with m | m
  ·exact S.dom b m
  ·exact S.Yj b (List.mem_append_right _ (List.mem_append_right _ m))
theorem Res.back {r:Vl} {v:V} (S:Sm K Z Θ env C σ H) (k:bK Θ H H') (h:Res K (Z++aV env σ) Θ [] C' [] H H' r v):Res K Z Θ env C' σ H H' r v:=by
 have e1:er (aK (Z++aV env σ) Θ [] []) H'=er (aK Z Θ env σ) H':=gW zj
 cases r with
 | im d=>
  obtain ⟨S',r⟩:=h
  rw [e1] at r
  exact ⟨S.go k S'.cell,r⟩
 | ow d=>
  obtain ⟨a,rfl,hn,S',r⟩:=h
  have e2:er (aK (a::(Z++aV env σ)) Θ [] []) H'=er (aK (a::Z) Θ env σ) H':=gW fun b=>by
   show b∈a::aK (Z++aV env σ) Θ [] [] ↔ b∈a::aK Z Θ env σ
   rw [List.mem_cons,List.mem_cons,zj]
  rw [e2] at r
  exact ⟨a,rfl,hn,S.uT hn k (S'.dom a List.mem_cons_self) S'.cell,r⟩
 | ce n=>exact ⟨S.go k h.1.cell,h.2⟩
 | sc ns=>
  obtain ⟨S',a,rfl,q⟩:=h
  rw [e1] at q
  exact ⟨S.go k S'.cell,a,rfl,q⟩
end
section
variable {X:Cx} {x:Str} {k:Nat} {ps:List Str} {p pos:Pos} {e:Expr} {es:List Expr} {f:FN} {g:FA}
theorem Mv {K:PySem.W.Frag}:∀σ H Q,tE K (fCal f g) σ H Q→KN (spT K f) [] E0 (Uw K g) σ H Q:=by
 rintro σ H Q ⟨Z,Θ,env,C,res,env',C',S,hf,q⟩
 unfold fCal at hf
 split at hf
 ·rename_i xs e1 C1 h1
  split at hf
  ·rename_i r C2 h2
   cases hf
   refine ⟨Z,Θ,env,C,xs,e1,C1,S,h1,fun vs H1 k1 f1 S1 a1=>?_⟩
   show spT K f (vs++[]) H1 Q E0
   rw [List.append_nil]
   have e2:er (aK (Z++aV e1 σ) Θ [] []) H1=er (aK Z Θ e1 σ) H1:=gW zj
   rw [←e2] at a1
   exact ⟨Z++aV e1 σ,Θ,C1,xs,res,C',S1.bare,a1,h2,fun v H2 k2 R=>q v H2 (k1.trans k2) (f1.rst res) (((R.back S1 k2).from k1).rst S (k1.trans k2))⟩
  ·cases hf
 ·cases hf
theorem bA (F:jl X.prog X.w X.K X.mg X.base x k ps (spT X.K f)) (hr:gm k X.A) (hg:Gl X x) (ha:PA X (e::es) (Uw X.K g)) (hdb:(x==("__debug__":Str))=false:=by decide)
  (he:starEach (e::es) X.env=(false,eval e X.env)::starEach es X.env:=by rfl) (hpl:(backTo pos (starEach es X.env)).any (·.1)=false:=by rfl):PE X (.Call (.Name x p) (e::es) [] pos) (tE X.K (fCal f g)):=(WL F hr hg ha hdb he hpl).weak Mv
end
end L2
namespace L2
open PySem PySem.Spec PyProof.Rows PySem.W
theorem rH:∀{env:En} {σ:St},(∀(i j:Nat) (d e:PyData) (a:Addr),env[i]?=some (some (Vl.ow d))→σ[i]?=some (some (V.ref a))→env[j]?=some (some (Vl.ow e))→σ[j]?=some (some (V.ref a))→i=j)→(aV env σ).Nodup
 | [],σ,_=>by cases σ <;> exact List.nodup_nil
 | _::_,[],_=>List.nodup_nil
 | x::en,v::s,h=>by
  rw [aV,List.nodup_append]
  refine ⟨?_,rH fun i j d e a h1 h2 h3 h4=>?_,fun a ha b hb e=>?_⟩
  ·unfold own1
   split
   ·exact List.nodup_cons.mpr ⟨by simp,List.nodup_nil⟩
   ·exact List.nodup_nil
  ·have:=h (i + 1) (j + 1) d e a (by simpa using h1) (by simpa using h2) (by simpa using h3) (by simpa using h4)
   omega
  ·subst e
   unfold own1 at ha
   split at ha
   ·rw [List.mem_singleton] at ha
    subst ha
    obtain ⟨j,d,h1,h2⟩:=cg.mp hb
    have:=h 0 (j + 1) _ d a rfl rfl (by simpa using h1) (by simpa using h2)
    omega
   ·simp at ha
theorem get_set {α:Type} {l:List α} {i j:Nat} {x y:α} (h:(l.set i x)[j]?=some y):(j=i∧y=x∧i < l.length)∨(j≠i∧l[j]?=some y):=by
 by_cases e:i=j
 ·subst e
  rw [List.getElem?_set,if_pos rfl] at h
  split at h
  ·rename_i hl; cases h; exact .inl ⟨rfl,rfl,hl⟩
  ·cases h
 ·rw [List.getElem?_set_ne e] at h
  exact .inr ⟨fun z=>e z.symm,h⟩
theorem Hl {α:Type} {l:List α} {i:Nat} {x:α} (h:i < l.length):(l.set i x)[i]?=some x:=by
 rw [List.getElem?_set,if_pos rfl,if_pos h]
theorem jn {env:En} {σ:St} {i:Nat} {x:Vl} {v:V} {a:Addr} (h:a∈aV (env.set i (some x)) (σ.set i (some v))):a∈aV env σ∨(∃d,x=.ow d)∧v=.ref a:=by
 obtain ⟨j,d,h1,h2⟩:=cg.mp h
 rcases get_set h1 with ⟨rfl,e,_⟩ | ⟨n,h1⟩
 ·rcases get_set h2 with ⟨_,e2,_⟩ | ⟨n,_⟩
  ·cases e; cases e2; exact .inr ⟨⟨d,rfl⟩,rfl⟩
  ·exact absurd rfl n
 ·rcases get_set h2 with ⟨e,_,_⟩ | ⟨_,h2⟩
  ·exact absurd e n
  ·exact .inl (cg.mpr ⟨j,d,h1,h2⟩)
section
variable {K:PySem.W.Frag} {Z Θ:List Addr} {env:En} {C:Ce} {σ:St} {H:Hp} {a:Addr} {i:Nat} {v:V}
theorem Sm.jh (S:Sm K Z Θ env C σ H):Z.Nodup∧Θ.Nodup∧(aV env σ).Nodup∧(∀b∈Z,b∉Θ):=by
 have h:=S.nd
 rw [List.nodup_append,List.nodup_append] at h
 obtain ⟨h1,⟨h2,h3,_⟩,h4⟩:=h
 exact ⟨h1,h2,h3,fun b m m'=>h4 b m b (List.mem_append_left _ m') rfl⟩
theorem Ux {Z Θ O:List Addr} (h1:Z.Nodup) (h2:Θ.Nodup) (h3:O.Nodup) (h4:∀b∈Z,b∉Θ) (h5:∀b∈O,b∉Z∧b∉Θ):(Z++(Θ++O)).Nodup:=by
 rw [List.nodup_append,List.nodup_append]
 refine ⟨h1,⟨h2,h3,fun b m c m' e=>?_⟩,fun b m c m' e=>?_⟩
 ·subst e; exact (h5 b m').2 m
 ·subst e
  rcases List.mem_append.mp m' with m' | m'
  ·exact h4 b m m'
  ·exact (h5 b m').1 m
theorem Sm.Ff (S:Sm K Z Θ env C σ H) {x:Vl} (hx:∀d,x≠.ow d) (r:JD K (er (aK Z Θ env σ) H) H Θ x v):Sm K Z Θ (env.set i (some x)) C (σ.set i (some v)) H:=by
 have sub:∀b,b∈aV (env.set i (some x)) (σ.set i (some v))→b∈aV env σ:=fun b m=>by
  rcases jn m with m | ⟨⟨d,e⟩,_⟩
  ·exact m
  ·exact absurd e (hx d)
 have jh:=S.jh
 have sm:aQ (er (aK Z Θ env σ) H) (er (aK Z Θ (env.set i (some x)) (σ.set i (some v))) H):=jB fun b m=>by
  rcases List.mem_append.mp m with m | m
  ·exact List.mem_append_left _ m
  ·rcases List.mem_append.mp m with m | m
   ·exact List.mem_append_right _ (List.mem_append_left _ m)
   ·exact List.mem_append_right _ (List.mem_append_right _ (sub b m))
 refine ⟨by rw [List.length_set,List.length_set]; exact S.len,?_,S.dom,fun j y e=>?_,S.cell⟩
 ·refine Ux jh.1 jh.2.1 (rH fun p q d e b h1 h2 h3 h4=>?_) jh.2.2.2 fun b m=>S.eZ (sub b m)
  rcases get_set h1 with ⟨rfl,e1,_⟩ | ⟨n1,h1⟩
  ·cases e1; exact absurd rfl (hx d)
  ·rcases get_set h3 with ⟨rfl,e1,_⟩ | ⟨n2,h3⟩
   ·cases e1; exact absurd rfl (hx e)
   ·rcases get_set h2 with ⟨e2,_,_⟩ | ⟨_,h2⟩
    ·exact absurd e2 n1
    ·rcases get_set h4 with ⟨e4,_,_⟩ | ⟨_,h4⟩
     ·exact absurd e4 n2
     ·exact qu jh.2.2.1 h1 h2 h3 h4
 ·rcases get_set e with ⟨rfl,e1,hl⟩ | ⟨n,e⟩
  ·cases e1
   exact ⟨v,Hl (by rw [S.len]; exact hl),r.same sm fun d b ex _=>absurd ex (hx d)⟩
  ·obtain ⟨u,e1,r1⟩:=S.slot j y e
   exact ⟨u,by rw [List.getElem?_set_ne (Ne.symm n)]; exact e1,r1.same sm fun _ _ _ _ _ h=>h⟩
theorem Sm.Xa (S:Sm K (a::Z) Θ env C σ H) {d:PyData} (r:m6 (er (aK (a::Z) Θ env σ) H) H a d):Sm K Z Θ (env.set i (some (.ow d))) C (σ.set i (some (.ref a))) H:=by
 have sub:∀b,b∈aV (env.set i (some (.ow d))) (σ.set i (some (.ref a)))→b∈aV env σ∨b=a:=fun b m=>by
  rcases jn m with m | ⟨_,e⟩
  ·exact .inl m
  ·cases e; exact .inr rfl
 have jh:=S.jh
 have Xb:=List.nodup_cons.mp jh.1
 have sm:aQ (er (aK (a::Z) Θ env σ) H) (er (aK Z Θ (env.set i (some (.ow d))) (σ.set i (some (.ref a)))) H):=jB fun b m=>by
  rcases List.mem_append.mp m with m | m
  ·exact List.mem_append_left _ (List.mem_cons_of_mem _ m)
  ·rcases List.mem_append.mp m with m | m
   ·exact List.mem_append_right _ (List.mem_append_left _ m)
   ·rcases sub b m with m | rfl
    ·exact List.mem_append_right _ (List.mem_append_right _ m)
    ·exact List.mem_append_left _ List.mem_cons_self
 have Xc:a∉aV env σ:=fun m=>(S.eZ m).1 List.mem_cons_self
 refine ⟨by rw [List.length_set,List.length_set]; exact S.len,?_,fun b m=>S.dom b (List.mem_cons_of_mem _ m),fun j y e=>?_,S.cell⟩
 ·refine Ux Xb.2 jh.2.1 (rH fun p q d1 e b h1 h2 h3 h4=>?_) (fun b m=>jh.2.2.2 b (List.mem_cons_of_mem _ m)) fun b m=>?_
  ·rcases get_set h1 with ⟨rfl,e1,_⟩ | ⟨n1,h1⟩
   ·rcases get_set h3 with ⟨e3,_,_⟩ | ⟨n2,h3⟩
    ·exact e3.symm
    ·rcases get_set h2 with ⟨_,e2,_⟩ | ⟨n,_⟩
     ·cases e2
      rcases get_set h4 with ⟨e4,_,_⟩ | ⟨_,h4⟩
      ·exact e4.symm
      ·exact absurd (cg.mpr ⟨q,e,h3,h4⟩) Xc
     ·exact absurd rfl n
   ·rcases get_set h2 with ⟨e2,_,_⟩ | ⟨_,h2'⟩
    ·exact absurd e2 n1
    ·have mp:=cg.mpr ⟨p,d1,h1,h2'⟩
     rcases get_set h3 with ⟨rfl,e3,_⟩ | ⟨n2,h3⟩
     ·rcases get_set h4 with ⟨_,e4,_⟩ | ⟨n,_⟩
      ·cases e4
       exact absurd mp Xc
      ·exact absurd rfl n
     ·rcases get_set h4 with ⟨e4,_,_⟩ | ⟨_,h4⟩
      ·exact absurd e4 n2
      ·exact qu jh.2.2.1 h1 h2' h3 h4
  ·rcases sub b m with m | rfl
   ·obtain ⟨p,q⟩:=S.eZ m
    exact ⟨fun z=>p (List.mem_cons_of_mem _ z),q⟩
   ·exact ⟨Xb.1,jh.2.2.2 b List.mem_cons_self⟩
 ·rcases get_set e with ⟨rfl,e1,hl⟩ | ⟨n,e⟩
  ·cases e1
   exact ⟨_,Hl (by rw [S.len]; exact hl),a,rfl,r.same sm fun _ h=>h⟩
  ·obtain ⟨u,e1,r1⟩:=S.slot j y e
   exact ⟨u,by rw [List.getElem?_set_ne (Ne.symm n)]; exact e1,r1.same sm fun _ _ _ _ _ h=>h⟩
theorem Res.set {H0:Hp} {r:Vl} (h:Res K Z Θ env C σ H0 H r v):Sm K Z Θ (env.set i (some r)) C (σ.set i (some v)) H:=by
 cases r with
 | im d=>exact h.1.Ff (fun _ e=>nomatch e) h.2
 | ow d=>obtain ⟨a,rfl,_,S,r⟩:=h; exact S.Xa r
 | ce n=>exact h.1.Ff (fun _ e=>nomatch e) h.2
 | sc ns=>exact h.1.Ff (fun _ e=>nomatch e) h.2
end
inductive Fl where
 | nx | rt (r:Vl) | bk | ct
noncomputable abbrev FS:=En→Ce→Option (Fl×En×Ce)
structure xP (Θ Θ':List Addr) (H:Hp):Prop where
 ex:∃Δ,Θ'=Θ++Δ∧∀a∈Δ,H a=none
theorem xP.refl (Θ:List Addr) (H:Hp):xP Θ Θ H:=⟨[],by rw [List.append_nil],fun _ m=>nomatch m⟩
structure jf (K:PySem.W.Frag) (Z Θ:List Addr) (env:En) (σ:St) (H:Hp) (Θ':List Addr) (env':En) (C':Ce) (σ':St) (H':Hp):Prop where
 th:xP Θ Θ' H
 kp:bK (Θ++aV env σ) H H'
 own:∀a∈aV env' σ',a∈aV env σ∨H a=none
 sm:Sm K Z Θ' env' C' σ' H'
noncomputable def Ho (K:PySem.W.Frag) (Z Θ:List Addr) (C:Ce) (own:List Addr) (H H':Hp):Vl→V→Prop
 | .im d,v=>Sm K Z Θ [] C [] H'∧RZ (er (aK Z Θ [] []) H') d v
 | .ow d,v=>∃a,v=.ref a∧(a∈own∨H a=none)∧Sm K (a::Z) Θ [] C [] H'∧m6 (er (aK (a::Z) Θ [] []) H') H' a d
 | .ce n,v=>Sm K Z Θ [] C [] H'∧∃a,v=.ref a∧Θ[n]?=some a
 | .sc ns,v=>Sm K Z Θ [] C [] H'∧∃a,v=.ref a∧cZ K (er (aK Z Θ [] []) H') a (ns.map V.int)
structure Zx (K:PySem.W.Frag) (Z Θ:List Addr) (env:En) (σ:St) (H:Hp) (Θ':List Addr) (C':Ce) (r:Vl) (v:V) (H':Hp):Prop where
 th:xP Θ Θ' H
 kp:bK (Θ++aV env σ) H H'
 ok:Ho K Z Θ' C' (aV env σ) H H' r v
noncomputable def Qv (K:PySem.W.Frag) (Z Θ:List Addr) (env:En) (σ:St) (H:Hp) (env':En) (C':Ce) (D:Ends):Fl→Prop
 | .nx=>∀Θ' σ' H',jf K Z Θ env σ H Θ' env' C' σ' H'→D.nx σ' H'
 | .bk=>∀Θ' σ' H',jf K Z Θ env σ H Θ' env' C' σ' H'→D.bk σ' H'
 | .ct=>∀Θ' σ' H',jf K Z Θ env σ H Θ' env' C' σ' H'→D.ct σ' H'
 | .rt r=>∀Θ' v H',Zx K Z Θ env σ H Θ' C' r v H'→D.rt v H'
noncomputable def tS (K:PySem.W.Frag) (f:FS):TS:=fun D σ H=>∃Z Θ env C fl env' C',Sm K Z Θ env C σ H∧f env C=some (fl,env',C')∧Qv K Z Θ env σ H env' C' D fl
section
variable {K:PySem.W.Frag} {Z Θ Θ1 Θ2:List Addr} {env e1 e2:En} {C C1 C2:Ce} {σ σ1 σ2:St} {H H1 H2:Hp}
theorem xP.trans (h:xP Θ Θ1 H) (k:∀a,H a≠none→H1 a≠none) (g:xP Θ1 Θ2 H1):xP Θ Θ2 H:=by
 obtain ⟨Δ,e,n⟩:=h.ex
 obtain ⟨Δ',e',n'⟩:=g.ex
 refine ⟨Δ++Δ',by rw [e',e,List.append_assoc],fun a m=>?_⟩
 rcases List.mem_append.mp m with m | m
 ·exact n a m
 ·cases h:H a with
  | none=>rfl
  | some o=>exact absurd (n' a m) (k a (by rw [h]; exact Option.some_ne_none _))
theorem Bs (th:xP Θ Θ1 H) (k1:bK (Θ++aV env σ) H H1) (ow:∀a∈aV e1 σ1,a∈aV env σ∨H a=none) (k2:bK (Θ1++aV e1 σ1) H1 H2):bK (Θ++aV env σ) H H2:=by
 refine ⟨fun a o e n=>k2.keep a o (k1.keep a o e n) fun m=>n ?_,fun a e=>k2.dom a (k1.dom a e)⟩
 have hn:H a≠none:=by rw [e]; exact Option.some_ne_none _
 rcases List.mem_append.mp m with m | m
 ·obtain ⟨Δ,e',n'⟩:=th.ex
  rw [e'] at m
  rcases List.mem_append.mp m with m | m
  ·exact List.mem_append_left _ m
  ·exact absurd (n' a m) hn
 ·rcases ow a m with m | m
  ·exact List.mem_append_right _ m
  ·exact absurd m hn
theorem jf.trans (p:jf K Z Θ env σ H Θ1 e1 C1 σ1 H1) (q:jf K Z Θ1 e1 σ1 H1 Θ2 e2 C2 σ2 H2):jf K Z Θ env σ H Θ2 e2 C2 σ2 H2 where
 th:=p.th.trans p.kp.dom q.th
 kp:=Bs p.th p.kp p.own q.kp
 own:=fun a m=>by
  rcases q.own a m with m | m
  ·exact p.own a m
  ·exact .inr (p.kp.none m)
 sm:=q.sm
theorem jf.ret {r:Vl} {v:V} (p:jf K Z Θ env σ H Θ1 e1 C1 σ1 H1) (q:Zx K Z Θ1 e1 σ1 H1 Θ2 C2 r v H2):Zx K Z Θ env σ H Θ2 C2 r v H2 where
 th:=p.th.trans p.kp.dom q.th
 kp:=Bs p.th p.kp p.own q.kp
 ok:=by
  have h:=q.ok
  cases r with
  | im d=>exact h
  | ow d=>
   obtain ⟨a,e,m,S,r⟩:=h
   refine ⟨a,e,?_,S,r⟩
   rcases m with m | m
   ·exact p.own a m
   ·exact .inr (p.kp.none m)
  | ce n=>exact h
  | sc ns=>exact h
theorem Qv.trans {D:Ends} {fl:Fl} (p:jf K Z Θ env σ H Θ1 e1 C1 σ1 H1) (h:Qv K Z Θ env σ H e2 C2 D fl):Qv K Z Θ1 e1 σ1 H1 e2 C2 D fl:=by
 cases fl with
 | nx=>exact fun Θ' σ' H' q=>h Θ' σ' H' (p.trans q)
 | bk=>exact fun Θ' σ' H' q=>h Θ' σ' H' (p.trans q)
 | ct=>exact fun Θ' σ' H' q=>h Θ' σ' H' (p.trans q)
 | rt r=>exact fun Θ' v H' q=>h Θ' v H' (p.ret q)
theorem jo {O:List Addr} (k:bK Θ H H1):bK (Θ++O) H H1:=⟨fun a o e n=>k.keep a o e fun m=>n (List.mem_append_left _ m),k.dom⟩
theorem jf.Fg (k:bK Θ H H1) (f:Fz env e1) (S:Sm K Z Θ e1 C1 σ H1):jf K Z Θ env σ H Θ e1 C1 σ H1:=
 ⟨xP.refl _ _,jo k,fun a m=>.inl (f.own.subset m),S⟩
end
noncomputable def fNext:FS:=fun env C=>some (.nx,env,C)
noncomputable def fSeq (f g:FS):FS:=fun env C=>match f env C with
 | some (.nx,e1,C1)=>g e1 C1
 | r=>r
noncomputable def lq (c:FT) (f g:FS):FS:=fun env C=>match c env C with
 | some (true,C1)=>f env C1
 | some (false,C1)=>g env C1
 | none=>none
noncomputable def fRet (f:FE):FS:=fun env C=>match f env C with
 | some (r,e1,C1)=>some (.rt r,e1,C1)
 | none=>none
noncomputable def fRetV (i:Nat):FS:=fun env C=>match env[i]? with
 | some (some x)=>some (.rt x,env,C)
 | _=>none
noncomputable def fSet (i:Nat) (f:FE):FS:=fun env C=>match f env C with
 | some (r,e1,C1)=>some (.nx,e1.set i (some r),C1)
 | none=>none
section
variable {X:Cx} {st:Stmt} {rest:List Stmt} {pos:Pos}
theorem jf.same {K:PySem.W.Frag} {Z Θ:List Addr} {env:En} {C:Ce} {σ:St} {H:Hp} (S:Sm K Z Θ env C σ H):jf K Z Θ env σ H Θ env C σ H:=jf.Fg (bK.refl _ _) (Fz.refl _) S
theorem gq:sY X [] (tS X.K fNext):=O7.weak fun D σ H aP=>by
 obtain ⟨Z,Θ,env,C,fl,env',C',S,hf,q⟩:=aP
 cases hf
 exact q Θ σ H (jf.same S)
theorem aR {f:FS} (h:PS X st (tS X.K f)):sY X [st] (tS X.K f):=O8 h
theorem Mw {K:PySem.W.Frag} {f g:FS}:∀D σ H,tS K (fSeq f g) D σ H→V3 (tS K f) (tS K g) D σ H:=by
 rintro D σ H ⟨Z,Θ,env,C,fl,env',C',S,hf,q⟩
 unfold fSeq at hf
 split at hf
 ·rename_i e1 C1 h1
  exact ⟨Z,Θ,env,C,.nx,e1,C1,S,h1,fun Θ1 σ1 H1 p=>⟨Z,Θ1,e1,C1,fl,env',C',p.sm,hf,q.trans p⟩⟩
 ·rename_i hne
  refine ⟨Z,Θ,env,C,fl,env',C',S,hf,?_⟩
  cases fl with
  | nx=>exact absurd hf (hne _ _)
  | bk=>exact q
  | ct=>exact q
  | rt r=>exact q
theorem aG {f g:FS} (h:PS X st (tS X.K f)) (hr:sY X rest (tS X.K g)):sY X (st::rest) (tS X.K (fSeq f g)):=(Km h hr).weak Mw
theorem j0 {c:Expr} {a b:List Stmt} {t:FT} {f g:FS} (hc:PT X c (mO X.K t)) (ha:sY X a (tS X.K f)) (hb:sY X b (tS X.K g)):PS X (.If c a b pos) (tS X.K (lq t f g)):=(V5 hc ha hb).weak fun D σ H aP=>by
 obtain ⟨Z,Θ,env,C,fl,env',C',S,hf,q⟩:=aP
 unfold lq at hf
 split at hf
 ·rename_i C1 h1
  exact ⟨Z,Θ,env,C,true,C1,S,h1,fun H1 k1 S1=>wg ⟨Z,Θ,env,C1,fl,env',C',S1,hf,q.trans (jf.Fg k1 (Fz.refl _) S1)⟩⟩
 ·rename_i C1 h1
  exact ⟨Z,Θ,env,C,false,C1,S,h1,fun H1 k1 S1=>vZ ⟨Z,Θ,env,C1,fl,env',C',S1,hf,q.trans (jf.Fg k1 (Fz.refl _) S1)⟩⟩
 ·cases hf
theorem Sm.none {K:PySem.W.Frag} {Z Θ:List Addr} {env:En} {C:Ce} {σ:St} {H:Hp} (S:Sm K Z Θ env C σ H):Sm K Z Θ [] C [] H:=by
 have jh:=S.jh
 exact ⟨rfl,Ux jh.1 jh.2.1 List.nodup_nil jh.2.2.2 (fun _ m=>nomatch m),S.dom,fun i x e=>by simp at e,S.cell⟩
theorem nj {Z Θ:List Addr} {env:En} {σ:St} {H:Hp}:aQ (er (aK Z Θ env σ) H) (er (aK Z Θ [] []) H):=jB fun b m=>by
 rcases List.mem_append.mp m with m | m
 ·exact List.mem_append_left _ m
 ·rcases List.mem_append.mp m with m | m
  ·exact List.mem_append_right _ (List.mem_append_left _ m)
  ·nomatch m
theorem Res.ret {K:PySem.W.Frag} {Z Θ:List Addr} {env:En} {C:Ce} {σ:St} {H H':Hp} {O:List Addr} {r:Vl} {v:V} (h:Res K Z Θ env C σ H H' r v):Ho K Z Θ C O H H' r v:=by
 cases r with
 | im d=>exact ⟨h.1.none,h.2.same nj⟩
 | ow d=>obtain ⟨a,e,n,S,r⟩:=h; exact ⟨a,e,.inr n,S.none,r.same nj fun _ h=>h⟩
 | ce n=>exact ⟨h.1.none,h.2⟩
 | sc ns=>obtain ⟨S,a,e,q⟩:=h; exact ⟨S.none,a,e,nj.seq q⟩
theorem cu {e:Expr} {f:FE} (h:PE X e (tE X.K f)):PS X (.Return (some e) pos) (tS X.K (fRet f)):=(Ko h).weak fun D σ H aP=>by
 obtain ⟨Z,Θ,env,C,fl,env',C',S,hf,q⟩:=aP
 unfold fRet at hf
 split at hf
 ·rename_i r e1 C1 h1
  cases hf
  exact ⟨Z,Θ,env,C,r,env',C',S,h1,fun v H1 k f R=>q Θ v H1 ⟨xP.refl _ _,jo k,R.ret⟩⟩
 ·cases hf
theorem jq {e:Expr} {i:Nat} (h:PE X e (uc i)):PS X (.Return (some e) pos) (tS X.K (fRetV i)):=(Ko h).weak fun D σ H aP=>by
 obtain ⟨Z,Θ,env,C,fl,env',C',S,hf,q⟩:=aP
 unfold fRetV at hf
 split at hf
 ·rename_i x hx
  cases hf
  obtain ⟨v,e1,r⟩:=S.slot i x hx
  refine ⟨v,e1,q Θ v H ⟨xP.refl _ _,bK.refl _ _,?_⟩⟩
  cases x with
  | im d=>exact ⟨S.none,RZ.same nj r⟩
  | ow d=>
   obtain ⟨a,rfl,r⟩:=r
   have m:a∈aV env σ:=cg.mpr ⟨i,d,hx,e1⟩
   have sm:aQ (er (aK Z Θ env σ) H) (er (aK (a::Z) Θ [] []) H):=jB fun b mb=>by
    rcases List.mem_append.mp mb with mb | mb
    ·rcases List.mem_cons.mp mb with rfl | mb
     ·exact List.mem_append_right _ (List.mem_append_right _ m)
     ·exact List.mem_append_left _ mb
    ·rcases List.mem_append.mp mb with mb | mb
     ·exact List.mem_append_right _ (List.mem_append_left _ mb)
     ·nomatch mb
   have jh:=S.jh
   refine ⟨a,rfl,.inl m,⟨rfl,Ux (List.nodup_cons.mpr ⟨(S.eZ m).1,jh.1⟩) jh.2.1 List.nodup_nil (fun b mb=>?_) (fun _ m=>nomatch m),fun b mb=>?_,fun i x e=>by simp at e,S.cell⟩,r.same sm fun _ h=>h⟩
   ·rcases List.mem_cons.mp mb with rfl | mb
    ·exact (S.eZ m).2
    ·exact jh.2.2.2 b mb
   ·rcases List.mem_cons.mp mb with rfl | mb
    ·exact r.nt
    ·exact S.dom b mb
  | ce n=>exact ⟨S.none,r⟩
  | sc ns=>obtain ⟨a,e,q⟩:=r; exact ⟨S.none,a,e,nj.seq q⟩
 ·cases hf
theorem uU {K:PySem.W.Frag} {i:Nat} {t:TE} {f:FE} (w:∀σ H Q,tE K f σ H Q→t σ H Q):∀D σ H,tS K (fSet i f) D σ H→Ip t (rZ i) D σ H:=by
 rintro D σ H ⟨Z,Θ,env,C,fl,env',C',S,hf,q⟩
 unfold fSet at hf
 split at hf
 ·rename_i r e1 C1 h1
  cases hf
  refine w _ _ _ ⟨Z,Θ,env,C,r,e1,C',S,h1,fun v H1 k f R=>q Θ _ H1 ⟨xP.refl _ _,jo k,fun a m=>?_,R.set⟩⟩
  rcases jn m with m | ⟨⟨d,e⟩,e2⟩
  ·exact .inl (f.own.subset m)
  ·subst e
   obtain ⟨b,e3,n,_⟩:=R
   rw [e2] at e3
   cases e3
   exact .inr n
 ·cases hf
theorem bM {i:Nat} {x:Str} {e:Expr} {f:FE} {pos':Pos} (hN:X.N.Nodup) (hi:X.N[i]?=some x) (hx:Loc X.env.scope x) (he:PE X e (tE X.K f)) (hs:swapsWith e (some (.Name x pos')) pos.line X.env=pure false:=by rfl) (hf:X.fn x=true∨X.env.scope.names.lookup x=some .local:=by first | exact .inl rfl | exact .inr rfl | assumption):
  PS X (.Assign [.Name x pos'] e pos) (tS X.K (fSet i f)):=(Ks hN hi hx he hs hf).weak (uU fun _ _ _ h=>h)
end
end L2
namespace L2
open PySem PySem.Spec PyProof.Rows PySem.W
noncomputable abbrev FG:=PyData→En→Option En
noncomputable abbrev Uy:=List PyData→En→Option En
noncomputable def VH (K:PySem.W.Frag) (g:TG) (fg:FG):Prop:=∀(Z Θ:List Addr) (env:En) (C:Ce) (σ:St) (H:Hp) (v:V) (d:PyData) (env':En),Sm K Z Θ env C σ H→RZ (er (aK Z Θ env σ) H) d v→fg d env=some env'→
 ∀Q:St→Hp→Prop,(∀σ',Sm K Z Θ env' C σ' H→(∀a∈aV env' σ',a∈aV env σ)→Q σ' H)→g v σ H Q
noncomputable def Qw (K:PySem.W.Frag) (g:Kq) (fg:Uy):Prop:=∀(Z Θ:List Addr) (env:En) (C:Ce) (σ:St) (H:Hp) (vs:List V) (ds:List PyData) (env':En),Sm K Z Θ env C σ H→eY (er (aK Z Θ env σ) H) ds vs→fg ds env=some env'→
 ∀Q:St→Hp→Prop,(∀σ',Sm K Z Θ env' C σ' H→(∀a∈aV env' σ',a∈aV env σ)→Q σ' H)→g vs σ H Q
noncomputable def gNm (i:Nat):FG:=fun d env=>some (env.set i (some (.im d)))
noncomputable def gsNil:Uy:=fun ds env=>match ds with
 | []=>some env
 | _=>none
noncomputable def gsCons (g:FG) (u:Uy):Uy:=fun ds env=>match ds with
 | d::r=>match g d env with
  | some e1=>u r e1
  | none=>none
 | []=>none
noncomputable def gTp (n:Nat) (u:Uy):FG:=fun d env=>match d with
 | .tuple ds=>if ds.length=n then u ds env else none
 | _=>none
theorem Mx {Z Θ:List Addr} {env e1:En} {σ σ1:St} {H:Hp} (h:∀a∈aV e1 σ1,a∈aV env σ):aQ (er (aK Z Θ env σ) H) (er (aK Z Θ e1 σ1) H):=jB fun b m=>by
 rcases List.mem_append.mp m with m | m
 ·exact List.mem_append_left _ m
 ·rcases List.mem_append.mp m with m | m
  ·exact List.mem_append_right _ (List.mem_append_left _ m)
  ·exact List.mem_append_right _ (List.mem_append_right _ (h b m))
section
variable {K:PySem.W.Frag}
theorem dB {i:Nat}:VH K (rZ i) (gNm i):=by
 intro Z Θ env C σ H v d env' S r e Q q
 cases e
 refine q _ (S.Ff (fun _ z=>nomatch z) r) fun a m=>?_
 rcases jn m with m | ⟨⟨_,z⟩,_⟩
 ·exact m
 ·cases z
theorem zm:Qw K Tc gsNil:=by
 intro Z Θ env C σ H vs ds env' S r e Q q
 unfold gsNil at e
 split at e
 ·cases e
  exact ⟨r,q _ S fun _ m=>m⟩
 ·cases e
theorem j4 {g:TG} {u:Kq} {fg:FG} {fu:Uy} (h:VH K g fg) (hu:Qw K u fu):Qw K (Kr g u) (gsCons fg fu):=by
 intro Z Θ env C σ H vs ds env' S r e Q q
 unfold gsCons at e
 split at e
 ·rename_i d r'
  obtain ⟨v,ws,rfl,r1,r2⟩:=r
  split at e
  ·rename_i e1 h1
   refine ⟨v,ws,rfl,h Z Θ env C σ H v d e1 S r1 h1 _ fun σ1 S1 o1=>?_⟩
   exact hu Z Θ e1 C σ1 H ws r' env' S1 (r2.same (Mx o1)) e Q fun σ2 S2 o2=>q σ2 S2 fun a m=>o1 a (o2 a m)
  ·cases e
 ·cases e
theorem Fi {n:Nat} {u:Kq} {fu:Uy} (hu:Qw K u fu):VH K (Td K n u) (gTp n fu):=by
 intro Z Θ env C σ H v d env' S r e Q q
 unfold gTp at e
 split at e
 ·rename_i ds
  split at e
  ·rename_i hl
   obtain ⟨a,vs,rfl,ha,r⟩:=r
   exact ⟨a,vs,rfl,ig.of (bw ha),(bI r).trans hl,hu Z Θ env C σ H vs ds env' S r e Q q⟩
  ·cases e
 ·cases e
end
noncomputable def fUnp (f:FE) (g:FG):FS:=fun env C=>match f env C with
 | some (r,e1,C1)=>match still r with
  | .im d=>match g d e1 with
   | some e2=>some (.nx,e2,C1)
   | none=>none
  | _=>none
 | none=>none
theorem Res.lW {K:PySem.W.Frag} {Z Θ:List Addr} {env:En} {C:Ce} {σ:St} {H H':Hp} {r:Vl} {v:V} {d:PyData} (h:Res K Z Θ env C σ H H' r v) (e:L2.still r=.im d):Sm K Z Θ env C σ H'∧RZ (er (aK Z Θ env σ) H') d v:=by
 have g:=h.still
 rw [e] at g
 exact g
section
variable {X:Cx} {pos:Pos}
theorem Uz {tg e:Expr} {f:FE} {g:TG} {fg:FG} (he:PE X e (tE X.K f)) (hg:PG X tg g) (L:VH X.K g fg) (hs:swapsWithSole [tg] e pos.line X.env=pure false:=by rfl) (hw:swappedStores [tg] e X.env=pure none:=by rfl) (h1:(assignEach [tg] X.env).map (·.2)=[assign tg X.env]:=by rfl):
  PS X (.Assign [tg] e pos) (tS X.K (fUnp f fg)):=(Du he hg hs hw h1).weak fun D σ H aP=>by
 obtain ⟨Z,Θ,env,C,fl,env',C',S,hf,q⟩:=aP
 unfold fUnp at hf
 split at hf
 ·rename_i r e1 C1 h1
  split at hf
  ·rename_i d hd
   split at hf
   ·rename_i e2 h2
    cases hf
    refine ⟨Z,Θ,env,C,r,e1,C',S,h1,fun v H1 k f R=>?_⟩
    obtain ⟨S1,r1⟩:=R.lW hd
    exact L Z Θ e1 C' σ H1 v d env' S1 r1 h2 D.nx fun σ' S' o=>q Θ σ' H1 ⟨xP.refl _ _,jo k,fun a m=>.inl (f.own.subset (o a m)),S'⟩
   ·cases hf
  ·cases hf
 ·cases hf
end
inductive iR (K:PySem.W.Frag) (E H:Hp) (Θ:List Addr):List Addr→List Vl→List V→Prop
 | nil:iR K E H Θ [] [] []
 | cons {as:List Addr} {x:Vl} {v:V} {xs:List Vl} {vs:List V}:qC K E Θ x v→iR K E H Θ as xs vs→iR K E H Θ as (x::xs) (v::vs)
 | own {as:List Addr} {a:Addr} {d:PyData} {xs:List Vl} {vs:List V}:m6 E H a d→iR K E H Θ as xs vs→iR K E H Θ (as++[a]) (.ow d::xs) (.ref a::vs)
theorem iR.same {K:PySem.W.Frag} {E E' H:Hp} {Θ as:List Addr} {xs:List Vl} {vs:List V} (s:aQ E E') (h:iR K E H Θ as xs vs):iR K E' H Θ as xs vs:=by
 induction h with
 | nil=>exact .nil
 | cons a _ ih=>exact .cons (a.same s) ih
 | own r _ ih=>exact .own (r.same s fun _ h=>h) ih
theorem iR.heap {K:PySem.W.Frag} {E H H':Hp} {Θ as:List Addr} {xs:List Vl} {vs:List V} (s:aQ H H') (h:iR K E H Θ as xs vs):iR K E H' Θ as xs vs:=by
 induction h with
 | nil=>exact .nil
 | cons a _ ih=>exact .cons a ih
 | own r _ ih=>exact .own (r.same (aQ.refl _) fun o ho=>s _ _ ho) ih
noncomputable def VJ (K:PySem.W.Frag) (f:FA):TA:=fun σ H Q=>∃Z Θ env C xs env' C',Sm K Z Θ env C σ H∧f env C=some (xs,env',C')∧
 ∀vs as H',bK Θ H H'→Fz env env'→(∀a∈as,H a=none)→Sm K (as++Z) Θ env' C' σ H'→iR K (er (aK (as++Z) Θ env' σ) H') H' Θ as xs vs→Q vs H'
noncomputable def oCons (f:FE) (g:FA):FA:=fun env C=>match f env C with
 | some (r,e1,C1)=>match g e1 C1 with
  | some (xs,e2,C2)=>some (r::xs,e2,C2)
  | none=>none
 | none=>none
section
variable {K:PySem.W.Frag} {Z Z' Θ:List Addr} {env:En} {C:Ce} {σ:St} {H:Hp}
theorem bF {a:Addr}:a∈aK Z Θ env σ ↔ a∈Z∨a∈Θ∨a∈aV env σ:=by rw [List.mem_append,List.mem_append]
theorem Sm.perm (S:Sm K Z Θ env C σ H) (p:Z.Perm Z'):Sm K Z' Θ env C σ H:=by
 have e:er (aK Z Θ env σ) H=er (aK Z' Θ env σ) H:=gW fun a=>by rw [bF,bF,p.mem_iff]
 refine ⟨S.len,(List.Perm.append_right _ p).nodup S.nd,fun a m=>S.dom a (p.mem_iff.mpr m),fun i x h=>?_,S.cell⟩
 rw [←e]
 exact S.slot i x h
end
section
variable {X:Cx} {e:Expr} {es:List Expr} {pos:Pos}
theorem zp:PA X [] (VJ X.K aNil):=iM.weak fun σ H Q aP=>by
 obtain ⟨Z,Θ,env,C,xs,env',C',S,hf,q⟩:=aP
 cases hf
 exact q [] [] H (bK.refl _ _) (Fz.refl _) (fun _ m=>nomatch m) S .nil
theorem jr {f:FE} {g:FA} (h:PE X e (tE X.K f)) (hr:PA X es (VJ X.K g)) (hs:starEach (e::es) X.env=(false,eval e X.env)::starEach es X.env:=by rfl):PA X (e::es) (VJ X.K (oCons f g)):=(dz h hr hs).weak fun σ H Q aP=>by
 obtain ⟨Z,Θ,env,C,xs,env',C',S,hf,q⟩:=aP
 unfold oCons at hf
 split at hf
 ·rename_i r e1 C1 h1
  split at hf
  ·rename_i ys e2 C2 h2
   cases hf
   refine ⟨Z,Θ,env,C,r,e1,C1,S,h1,fun v H1 k1 f1 R1=>?_⟩
   have plain:∀{x:Vl},Sm X.K Z Θ e1 C1 σ H1→qC X.K (er (aK Z Θ e1 σ) H1) Θ x v→r=x→VJ X.K g σ H1 fun xs H2=>Q (v::xs) H2:=fun {x} S1 a1 ex=>by
    subst ex
    refine ⟨Z,Θ,e1,C1,ys,env',C',S1,h2,fun vs as H2 k2 f2 n2 S2 a2=>q _ as H2 (k1.trans k2) (f1.trans f2) (fun a m=>k1.none (n2 a m)) S2 (.cons (a1.same (fB k2 S1.G7 fun a m=>?_)) a2)⟩
    rcases List.mem_append.mp m with m | m
    ·rcases List.mem_append.mp m with m | m
     ·exact .inr (n2 a m)
     ·exact .inl (List.mem_append_left _ m)
    ·exact .inl (f2.sub (Z:=Z) a (List.mem_append_right _ m))
   cases r with
   | im d=>exact plain (x:=.im d) R1.1 R1.2 rfl
   | ce n=>exact plain (x:=.ce n) R1.1 R1.2 rfl
   | sc ns=>exact plain (x:=.sc ns) R1.1 R1.2 rfl
   | ow d=>
    obtain ⟨a,rfl,hn,S1,r1⟩:=R1
    refine ⟨a::Z,Θ,e1,C1,ys,env',C',S1,h2,fun vs as H2 k2 f2 n2 S2 a2=>?_⟩
    have ez:as++a::Z=(as++[a])++Z:=by rw [List.append_assoc]; rfl
    rw [ez] at S2 a2
    have na:a∉Θ:=fun m=>(S1.jh.2.2.2 a List.mem_cons_self) m
    refine q _ (as++[a]) H2 (k1.trans k2) (f1.trans f2) (fun b m=>?_) S2 (.own (r1.same (fB k2 S1.G7 fun b m=>?_) fun o ho=>k2.keep _ _ ho na) a2)
    ·rcases List.mem_append.mp m with m | m
     ·exact k1.none (n2 b m)
     ·rw [List.mem_singleton.mp m]; exact hn
    ·rcases List.mem_append.mp m with m | m
     ·rcases List.mem_append.mp m with m | m
      ·rcases List.mem_append.mp m with m | m
       ·exact .inr (n2 b m)
       ·rw [List.mem_singleton.mp m]; exact .inl List.mem_cons_self
      ·exact .inl (List.mem_append_left _ (List.mem_cons_of_mem _ m))
     ·exact .inl (f2.sub (Z:=a::Z) b (List.mem_append_right _ m))
  ·cases hf
 ·cases hf
end
noncomputable def setM {α:Type}:List Nat→List α→List (Option α)→List (Option α)
 | i::is,x::xs,e=>setM is xs (e.set i (some x))
 | _,_,e=>e
theorem Hq {K:PySem.W.Frag} {Z Θ:List Addr} {C:Ce} {H:Hp} {E:Hp}:∀{as:List Addr} {xs:List Vl} {vs:List V},iR K E H Θ as xs vs→∀{is:List Nat} {env:En} {σ:St},is.length=xs.length→aQ E (er (aK (as++Z) Θ env σ) H)→Sm K (as++Z) Θ env C σ H→
  Sm K Z Θ (setM is xs env) C (setM is vs σ) H∧∀a∈aV (setM is xs env) (setM is vs σ),a∈aV env σ∨a∈as:=by
 intro as xs vs h
 induction h with
 | nil=>
  intro is env σ hl _ S
  cases is with
  | nil=>exact ⟨S,fun a m=>.inl m⟩
  | cons _ _=>cases hl
 | @cons as x v xs vs a1 _ ih=>
  intro is env σ hl sm S
  cases is with
  | nil=>cases hl
  | cons i is=>
   have hx:∀d,x≠.ow d:=fun d z=>by subst z; exact a1
   have sl:JD K (er (aK (as++Z) Θ env σ) H) H Θ x v:=by
    have a2:=a1.same sm
    cases x with
    | im d=>exact a2
    | ow d=>exact absurd rfl (hx d)
    | ce n=>exact a2
    | sc ns=>exact a2
   have S1:Sm K (as++Z) Θ (env.set i (some x)) C (σ.set i (some v)) H:=S.Ff hx sl
   have o1:∀b∈aV (env.set i (some x)) (σ.set i (some v)),b∈aV env σ:=fun b m=>by
    rcases jn m with m | ⟨⟨d,z⟩,_⟩
    ·exact m
    ·exact absurd z (hx d)
   obtain ⟨S2,o2⟩:=ih (is:=is) (by simpa using hl) (sm.trans (Mx o1)) S1
   refine ⟨S2,fun b m=>?_⟩
   rcases o2 b m with m | m
   ·exact .inl (o1 b m)
   ·exact .inr m
 | @own as a d xs vs r _ ih=>
  intro is env σ hl sm S
  cases is with
  | nil=>cases hl
  | cons i is=>
   have pm:((as++[a])++Z).Perm (a::(as++Z)):=by
    rw [List.append_assoc]
    exact List.perm_middle
   have S0:=S.perm pm
   have ee:er (aK ((as++[a])++Z) Θ env σ) H=er (aK (a::(as++Z)) Θ env σ) H:=gW fun b=>by rw [bF,bF,pm.mem_iff]
   rw [ee] at sm
   have S1:Sm K (as++Z) Θ (env.set i (some (.ow d))) C (σ.set i (some (.ref a))) H:=S0.Xa (r.same sm fun _ h=>h)
   have o1:∀b∈aV (env.set i (some (.ow d))) (σ.set i (some (.ref a))),b∈aV env σ∨b=a:=fun b m=>by
    rcases jn m with m | ⟨_,z⟩
    ·exact .inl m
    ·cases z; exact .inr rfl
   obtain ⟨S2,o2⟩:=ih (is:=is) (by simpa using hl) (sm.trans (jB fun b m=>by
    rcases List.mem_append.mp m with m | m
    ·exact List.mem_append_left _ (List.mem_cons_of_mem _ m)
    ·rcases List.mem_append.mp m with m | m
     ·exact List.mem_append_right _ (List.mem_append_left _ m)
     ·rcases o1 b m with m | rfl
      ·exact List.mem_append_right _ (List.mem_append_right _ m)
      ·exact List.mem_append_left _ List.mem_cons_self)) S1
   refine ⟨S2,fun b m=>?_⟩
   rcases o2 b m with m | m
   ·rcases o1 b m with m | rfl
    ·exact .inl m
    ·exact .inr (List.mem_append_right _ (List.mem_singleton.mpr rfl))
   ·exact .inr (List.mem_append_left _ m)
theorem zq {K:PySem.W.Frag} {E H:Hp} {Θ as:List Addr} {xs:List Vl} {vs:List V} (h:iR K E H Θ as xs vs):vs.length=xs.length:=by
 induction h with
 | nil=>rfl
 | cons _ _ ih=>rw [List.length_cons,List.length_cons,ih]
 | own _ _ ih=>rw [List.length_cons,List.length_cons,ih]
noncomputable def fPar (is:List Nat) (g:FA):FS:=fun env C=>match g env C with
 | some (xs,e1,C1)=>if is.length=xs.length∧xs.length≤LIM then some (.nx,setM is xs e1,C1) else none
 | none=>none
noncomputable def Zy (is:List Nat):Kq:=match is with
 | []=>Tc
 | i::r=>Kr (rZ i) (Zy r)
theorem Hr:∀{is:List Nat} {vs:List V} {σ:St} {H:Hp} {Q:St→Hp→Prop},is.length=vs.length→Q (setM is vs σ) H→Zy is vs σ H Q
 | [],[],σ,H,Q,_,q=>⟨rfl,q⟩
 | i::is,v::vs,σ,H,Q,h,q=>⟨v,vs,rfl,Hr (by simpa using h) q⟩
 | [],_::_,_,_,_,h,_=>by cases h
 | _::_,[],_,_,_,h,_=>by cases h
section
variable {X:Cx} {pos:Pos}
theorem UG {i j:Nat} {x y:Str} {a b:Expr} {g:FA} {px py pt:Pos} {kt k2 Tg} (hc:X.calm=true) (hN:X.N.Nodup) (hi:X.N[i]?=some x) (hj:X.N[j]?=some y) (hij:i≠j)
  (hx:X.env.scope.names.lookup x=some .local) (hy:X.env.scope.names.lookup y=some .local) (ha:PA X [a,b] (VJ X.K g))
  (hw:swappedStores [.Tuple [.Name x px,.Name y py] kt pt] (.Tuple [a,b] k2 Tg) X.env=pure (some [x,y]))
  (hs:swapsWithSole [.Tuple [.Name x px,.Name y py] kt pt] (.Tuple [a,b] k2 Tg) pos.line X.env=pure false:=by rfl):
  PS X (.Assign [.Tuple [.Name x px,.Name y py] kt pt] (.Tuple [a,b] k2 Tg) pos) (tS X.K (fPar [i,j] g)):=(Tf hc hN hi hj hij hx hy ha hw hs).weak fun D σ H aP=>by
 obtain ⟨Z,Θ,env,C,fl,env',C',S,hf,q⟩:=aP
 unfold fPar at hf
 split at hf
 ·rename_i xs e1 C1 h1
  split at hf
  ·rename_i hl
   cases hf
   refine ⟨Z,Θ,env,C,xs,e1,C',S,h1,fun vs as H1 k1 f1 n1 S1 a1=>?_⟩
   have l2:=zq a1
   obtain ⟨S2,o2⟩:=Hq a1 hl.1 (aQ.refl _) S1
   have e2:∃v w,vs=[v,w]:=by
    have:vs.length=2:=by rw [l2,←hl.1]; rfl
    match vs,this with
    | [v,w],_=>exact ⟨v,w,rfl⟩
   obtain ⟨v,w,rfl⟩:=e2
   refine ⟨v,w,rfl,q Θ _ H1 ⟨xP.refl _ _,jo k1,fun b m=>?_,S2⟩⟩
   rcases o2 b m with m | m
   ·exact .inl (f1.own.subset m)
   ·exact .inr (n1 b m)
  ·cases hf
 ·cases hf
theorem zu {tg:Expr} {es:List Expr} {g:FA} {is:List Nat} {n:Nat} {x1 pt} (ha:PA X es (VJ X.K g)) (hg:PG X tg (Td X.K n (Zy is))) (hn:n=is.length:=by rfl)
  (hs:swapsWithSole [tg] (.Tuple es x1 pt) pos.line X.env=pure false:=by rfl) (hw:swappedStores [tg] (.Tuple es x1 pt) X.env=pure none:=by rfl) (h1:(assignEach [tg] X.env).map (·.2)=[assign tg X.env]:=by rfl):
  PS X (.Assign [tg] (.Tuple es x1 pt) pos) (tS X.K (fPar is g)):=(Du (DQ ha) hg hs hw h1).weak fun D σ H aP=>by
 obtain ⟨Z,Θ,env,C,fl,env',C',S,hf,q⟩:=aP
 unfold fPar at hf
 split at hf
 ·rename_i xs e1 C1 h1
  split at hf
  ·rename_i hl
   cases hf
   refine ⟨Z,Θ,env,C,xs,e1,C',S,h1,fun vs as H1 k1 f1 n1 S1 a1=>⟨by rw [zq a1]; exact dH hl.2,fun p hp=>?_⟩⟩
   have l2:=zq a1
   refine ⟨p,vs,rfl,ig.of aL,by rw [l2,hn,hl.1],Hr (by rw [hl.1,l2]) ?_⟩
   have kp:bK Θ H1 (upd H1 p (.tup vs)):=bK.upd hp
   have S1':=S1.uJ (aQ.upd (o:=.tup vs) hp)
   have a1':iR X.K (er (aK (as++Z) Θ e1 σ) H1) (upd H1 p (.tup vs)) Θ as xs vs:=a1.heap fun b o ho=>by rw [aJ (bz ho hp)]; exact ho
   obtain ⟨S2,o2⟩:=Hq a1' hl.1 (fB kp S1.G7 fun b m=>.inl m) S1'
   refine q Θ _ _ ⟨xP.refl _ _,jo (k1.trans kp),fun b m=>?_,S2⟩
   rcases o2 b m with m | m
   ·exact .inl (f1.own.subset m)
   ·exact .inr (n1 b m)
  ·cases hf
 ·cases hf
end
end L2
namespace L2
open PySem PySem.Spec PyProof.Rows PySem.W
theorem Bt:∀{env:En} {σ:St} {i:Nat} {d d':PyData},env[i]?=some (some (.ow d))→aV (env.set i (some (.ow d'))) σ=aV env σ
 | [],σ,i,d,d',h=>by simp at h
 | x::e,[],i,d,d',h=>by cases i <;> rfl
 | x::e,v::s,0,d,d',h=>by
  simp at h
  subst h
  show own1 (some (.ow d')) v++aV e s=own1 (some (.ow d)) v++aV e s
  rcases v with _ | v
  ·rfl
  ·cases v <;> rfl
 | x::e,v::s,i + 1,d,d',h=>by
  show own1 x v++aV (e.set i (some (.ow d'))) s=own1 x v++aV e s
  rw [Bt (by simpa using h)]
section
variable {K:PySem.W.Frag} {Z Θ:List Addr} {env:En} {C:Ce} {σ:St} {H:Hp} {a:Addr} {i:Nat} {d d':PyData} {o:HO}
theorem Fj {P:List Addr} (h:a∈P):er P (upd H a o)=er P H:=by
 funext b
 unfold er
 by_cases hb:b=a
 ·subst hb; rw [if_pos h,if_pos h]
 ·rw [aJ hb]
theorem Sm.write (S:Sm K Z Θ env C σ H) (e1:env[i]?=some (some (.ow d))) (e2:σ[i]?=some (some (.ref a))) (r:m6 (er (aK Z Θ env σ) H) (upd H a o) a d'):jf K Z Θ env σ H Θ (env.set i (some (.ow d'))) C σ (upd H a o):=by
 have m:a∈aV env σ:=cg.mpr ⟨i,d,e1,e2⟩
 have no:=S.eZ m
 have eo:aV (env.set i (some (.ow d'))) σ=aV env σ:=Bt e1
 have mp:a∈aK Z Θ env σ:=List.mem_append_right _ (List.mem_append_right _ m)
 have ep:aK Z Θ (env.set i (some (.ow d'))) σ=aK Z Θ env σ:=by show _++(_++_)=_; rw [eo]
 refine ⟨xP.refl _ _,⟨fun b u hb n=>?_,fun b hb=>?_⟩,fun b mb=>.inl (by rw [eo] at mb; exact mb),⟨by rw [List.length_set]; exact S.len,by rw [ep]; exact S.nd,fun b mb=>?_,fun j y ej=>?_,⟨S.cell.len,fun n b ns h1 h2=>?_⟩⟩⟩
 ·rw [aJ (fun z=>n (List.mem_append_right _ (by rw [z]; exact m)))]
  exact hb
 ·by_cases z:b=a
  ·subst z; rw [aL]; exact Option.some_ne_none _
  ·rw [aJ z]; exact hb
 ·rw [aJ (fun z=>no.1 (by rw [←z]; exact mb))]
  exact S.dom b mb
 ·rw [ep,Fj mp]
  rcases get_set ej with ⟨rfl,ex,hl⟩ | ⟨n,ej⟩
  ·cases ex
   exact ⟨_,e2,a,rfl,r⟩
  ·obtain ⟨v,e3,r3⟩:=S.slot j y ej
   refine ⟨v,e3,r3.same (aQ.refl _) fun d2 b ex ev u hu=>?_⟩
   subst ex ev
   rw [aJ]
   ·exact hu
   ·intro z
    subst z
    exact n (qu S.jh.2.2.1 ej e3 e1 e2)
 ·rw [aJ (fun z=>no.2 (by rw [←z]; exact List.mem_of_getElem? h1))]
  exact S.cell.at_ n b ns h1 h2
end
noncomputable def lX:Option (Option Vl)→Bool
 | some (some (.ow (.list _)))=>true
 | _=>false
noncomputable def oM (i:Nat) (f:FE):FS:=fun env C=>if lX env[i]? then match f env C with
  | some (r,e1,C1)=>match still r,e1[i]? with
   | .im d,some (some (.ow (.list ds)))=>if ds.length < LIM then some (.nx,e1.set i (some (.ow (.list (ds++[d])))),C1) else none
   | _,_=>none
  | none=>none
 else none
theorem Bu {x:Option (Option Vl)} (h:lX x=true):∃ds,x=some (some (.ow (.list ds))):=by
 unfold lX at h
 split at h
 ·exact ⟨_,rfl⟩
 ·cases h
section
variable {X:Cx} {pos:Pos}
theorem rJ {i:Nat} {o e:Expr} {f:FE} {apos cpos:Pos} (ho:PE X o (uc i)) (he:PE X e (tE X.K f))
  (hs0:swapsWith (.Call (.Attribute o "append" apos) [e] [] cpos) none pos.line X.env=pure false:=by rfl)
  (hbase:attributeBase o "append" X.env (eval o X.env)=eval o X.env:=by rfl)
  (hfew:((backTo cpos (starEach [e] X.env)).all (fun x=>!x.1)&&(backToKw cpos (keywordEach [] X.env)).all (fun x=>x.1.isSome)
   &&decide (([e]:List Expr).length + ([]:List Keyword).length + (if ([]:List Keyword).isEmpty then 0 else 1) < 30))=true:=by rfl)
  (hline:(apos.endLine==cpos.line)=true:=by rfl) (hs:starEach [e] X.env=(false,eval e X.env)::starEach [] X.env:=by rfl) (hplain:(backTo cpos (starEach [] X.env)).any (·.1)=false:=by rfl):
  PS X (.Expr (.Call (.Attribute o "append" apos) [e] [] cpos) pos) (tS X.K (oM i f)):=
 (Gs (K3 PySem.F.plainAttrs_list PySem.F.slot_list_append PySem.F.type_list_append (RC.r w5) ho (dz he iM hs) hbase hfew hline hs hplain) hs0).weak fun D σ H aP=>by
  obtain ⟨Z,Θ,env,C,fl,env',C',S,hf,q⟩:=aP
  unfold oM at hf
  split at hf
  ·rename_i h0
   obtain ⟨ds0,h0⟩:=Bu h0
   obtain ⟨v0,UJ,a,rfl,Yg,ha0,r0⟩:=S.slot i _ h0
   split at hf
   ·rename_i r e1 C1 h1
    split at hf
    ·rename_i d ds hd hi
     split at hf
     ·rename_i hl
      cases hf
      refine ⟨_,UJ,.inl ⟨rfl,Yg,cZ.of ha0⟩,Z,Θ,env,C,r,e1,C',S,h1,fun v H1 k f R=>?_⟩
      obtain ⟨S1,r1⟩:=R.lW hd
      obtain ⟨v1,ev1,a1,Zz,vs,ha1,r2⟩:=S1.slot i _ hi
      subst Zz
      rw [UJ] at ev1
      cases ev1
      refine ⟨a,vs,v,rfl,rfl,ha1,by rw [bI r2,sizeLine_eq]; unfold LIM at hl; omega,?_⟩
      have w:jf X.K Z Θ e1 σ H1 Θ (e1.set i (some (.ow (.list (ds++[d]))))) C' σ (upd H1 a (.lst (vs++[v]))):=S1.write hi UJ ⟨_,aL,nW r2 ⟨v,[],rfl,r1,rfl⟩⟩
      exact q Θ σ _ ((jf.Fg k f S1).trans w)
     ·cases hf
    ·cases hf
   ·cases hf
  ·cases hf
noncomputable def oN {κ:Type} [DecidableEq κ] (f:PyData→Option κ) (k:κ) (dk d:PyData) (kvs:List (PyData×PyData)):List (PyData×PyData):=
 if (kvs.any fun p=>decide (f p.1=some k))=true then kvs.map (fun p=>if f p.1=some k then (p.1,d) else p) else kvs++[(dk,d)]
noncomputable def putD (kvs:List (PyData×PyData)) (dk d:PyData):Option (List (PyData×PyData)):=match cN dk with
 | some k=>if (cC cN kvs).isSome then some (oN cN k dk d kvs) else none
 | none=>match lQ dk with
  | some ks=>if (cC lQ kvs).isSome then some (oN lQ ks dk d kvs) else none
  | none=>none
theorem Hs {κ:Type} [DecidableEq κ] {f:PyData→Option κ} {k:κ} {E:Hp}:∀{kvs:List (PyData×PyData)} {ks:List κ} {vs:List V},cC f kvs=some ks→pG E kvs vs→(kvs.any fun p=>decide (f p.1=some k))=((ks.zip vs).any fun kv=>decide (kv.1=k))
 | [],ks,vs,h,r=>by
  cases h
  cases (show vs=[] from r)
  rfl
 | (p,d)::kvs,ks,vs,h,r=>by
  unfold cC at h
  split at h
  ·rename_i k' t h1 h2
   cases h
   obtain ⟨v,w,rfl,q,s⟩:=r
   show (decide (f p=some k) || _)=(decide (k'=k) || _)
   rw [Hs h2 s,h1]
   congr 1
   rw [Bool.eq_iff_iff,decide_eq_true_iff,decide_eq_true_iff]
   exact ⟨fun e=>Option.some.inj e,fun e=>by rw [e]⟩
  ·cases h
theorem Ht {κ:Type} [DecidableEq κ] {f:PyData→Option κ} {k:κ} {E:Hp} {d:PyData} {v:V} (hv:RZ E d v):∀{kvs:List (PyData×PyData)} {ks:List κ} {vs:List V},cC f kvs=some ks→pG E kvs vs→
  ∃vs',cC f (kvs.map fun p=>if f p.1=some k then (p.1,d) else p)=some ks∧pG E (kvs.map fun p=>if f p.1=some k then (p.1,d) else p) vs'∧ks.zip vs'=(ks.zip vs).map fun kv=>if kv.1=k then (kv.1,v) else kv
 | [],ks,vs,h,r=>by
  cases h
  exact ⟨[],rfl,rfl,rfl⟩
 | (p,e)::kvs,ks,vs,h,r=>by
  unfold cC at h
  split at h
  ·rename_i k' t h1 h2
   cases h
   obtain ⟨u,w,rfl,q,s⟩:=r
   obtain ⟨vs',g1,g2,g3⟩:=Ht (k:=k) hv h2 s
   have h1':f p=some k':=h1
   by_cases ek:k'=k
   ·subst ek
    refine ⟨v::vs',?_,?_,?_⟩
    ·rw [List.map_cons]
     show cC f ((if f p=some k' then (p,d) else (p,e))::_)=_
     rw [if_pos h1']
     unfold cC
     rw [g1]
     simp only [h1']
    ·rw [List.map_cons]
     show pG E ((if f p=some k' then (p,d) else (p,e))::_) _
     rw [if_pos h1']
     exact ⟨v,vs',rfl,hv,g2⟩
    ·show (k',v)::t.zip vs'=(if k'=k' then (k',v) else (k',u))::_
     rw [if_pos rfl,g3]
     rfl
   ·have ne:¬f p=some k:=fun z=>ek (Option.some.inj (h1'.symm.trans z))
    refine ⟨u::vs',?_,?_,?_⟩
    ·rw [List.map_cons]
     show cC f ((if f p=some k then (p,d) else (p,e))::_)=_
     rw [if_neg ne]
     unfold cC
     rw [g1]
     simp only [h1']
    ·rw [List.map_cons]
     show pG E ((if f p=some k then (p,d) else (p,e))::_) _
     rw [if_neg ne]
     exact ⟨u,vs',rfl,q,g2⟩
    ·show (k',u)::t.zip vs'=(if k'=k then (k',v) else (k',u))::_
     rw [if_neg ek,g3]
     rfl
  ·cases h
theorem Bv {κ:Type} {f:PyData→Option κ} {k:κ} {E:Hp} {dk d:PyData} {v:V} (hk:f dk=some k) (hv:RZ E d v):∀{kvs:List (PyData×PyData)} {ks:List κ} {vs:List V},cC f kvs=some ks→pG E kvs vs→
  cC f (kvs++[(dk,d)])=some (ks++[k])∧pG E (kvs++[(dk,d)]) (vs++[v])∧(ks++[k]).zip (vs++[v])=ks.zip vs++[(k,v)]
 | [],ks,vs,h,r=>by
  cases h
  cases (show vs=[] from r)
  refine ⟨?_,⟨v,[],rfl,hv,rfl⟩,rfl⟩
  show cC f [(dk,d)]=_
  unfold cC cC
  simp only [hk]
  rfl
 | (p,e)::kvs,ks,vs,h,r=>by
  unfold cC at h
  split at h
  ·rename_i k' t h1 h2
   cases h
   obtain ⟨u,w,rfl,q,s⟩:=r
   obtain ⟨g1,g2,g3⟩:=Bv hk hv h2 s
   refine ⟨?_,⟨u,_,rfl,q,g2⟩,?_⟩
   ·show cC f ((p,e)::(kvs++[(dk,d)]))=_
    unfold cC
    rw [g1]
    simp only [show f p=some k' from h1]
    rfl
   ·show (k',u)::(t++[k]).zip (w++[v])=_
    rw [g3]
    rfl
  ·cases h
theorem tV {κ:Type} [DecidableEq κ] {f:PyData→Option κ} {k:κ} {E:Hp} {dk d:PyData} {v:V} (hk:f dk=some k) (hv:RZ E d v) {kvs:List (PyData×PyData)} {ks:List κ} {vs:List V} (h:cC f kvs=some ks) (r:pG E kvs vs):
  ∃ks' vs',cC f (oN f k dk d kvs)=some ks'∧pG E (oN f k dk d kvs) vs'∧ks'.zip vs'=putK (ks.zip vs) k v:=by
 unfold oN putK
 rw [Hs h r]
 split
 ·obtain ⟨vs',g1,g2,g3⟩:=Ht (k:=k) hv h r
  exact ⟨ks,vs',g1,g2,g3⟩
 ·obtain ⟨g1,g2,g3⟩:=Bv hk hv h r
  exact ⟨_,_,g1,g2,g3⟩
theorem set_dict (hu:X.A.units + 1 < cLine):yC X (fun o i v H Q=>∃a H',o=.ref a∧vY H a i v H'∧Q H'):=by
 intro pins s σ H o i v ov iv u Q I ro ri rv h
 obtain ⟨a,H',rfl,g,q⟩:=h
 cases ro
 exact xm hu I g ri rv fun s' I'=>⟨H',I',q⟩
theorem JG (hu:X.A.units + 1 < cLine):yC X (fun o i v H Q=>∃(a b:Addr) (ks:List Key),o=.ref a∧H a=some (.dK [])∧i=.ref b∧H b=some (.tup (ks.map kV))∧Q (upd H a (.dT [(ks,v)]))):=by
 intro pins s σ H o i v ov iv u Q I ro ri rv h
 obtain ⟨a,b,ks,rfl,ha,rfl,hb,q⟩:=h
 cases ro
 have hb':(upd H a (.dT [])) b=some (.tup (ks.map kV)):=by rw [aJ (Kf hb ha (fun z=>nomatch z))]; exact hb
 refine xm hu (I.Zw ha) (vY.t (kvs:=[]) (k:=ks) (v:=v) aL hb' (by rw [sizeLine_eq]; decide)) ri rv fun s' I'=>⟨_,I',?_⟩
 rw [Gn]
 exact q
theorem yC.or {t t':O9} (h:yC X t) (h':yC X t'):yC X (fun o i v H Q=>t o i v H Q∨t' o i v H Q):=by
 intro pins s σ H o i v ov iv u Q I ro ri rv q
 rcases q with q | q
 ·exact h pins s σ H o i v ov iv u Q I ro ri rv q
 ·exact h' pins s σ H o i v ov iv u Q I ro ri rv q
theorem Qx (hu:X.A.units + 1 < cLine):yC X (fun o i v H Q=>(RB o i v H Q∨∃a H',o=.ref a∧vY H a i v H'∧Q H')∨∃(a b:Addr) (ks:List Key),o=.ref a∧H a=some (.dK [])∧i=.ref b∧H b=some (.tup (ks.map kV))∧Q (upd H a (.dT [(ks,v)]))):=
 (set_list.or (set_dict hu)).or (JG hu)
noncomputable def sG:Option (Option Vl)→Bool
 | some (some _)=>true
 | _=>false
theorem Qy {x:Option (Option Vl)} (h:sG x=true):∃y,x=some (some y):=by
 unfold sG at h
 split at h
 ·exact ⟨_,rfl⟩
 ·cases h
noncomputable def uV (i:Nat) (fk:FB) (fe:FE):FS:=fun env C=>match fe env C with
 | some (r,e1,C1)=>match still r with
  | .im d=>match fk e1 C1 with
   | some (dk,e2,C2)=>if sG e1[i]? then match e2[i]? with
    | some (some (.ow (.list ds)))=>match dk with
     | .int z=>match Ea ds.length z with
      | some j=>some (.nx,e2.set i (some (.ow (.list (ds.set j d)))),C2)
      | none=>none
     | _=>none
    | some (some (.ow (.dict kvs)))=>match putD kvs dk d with
     | some kvs'=>if kvs.length < LIM then some (.nx,e2.set i (some (.ow (.dict kvs'))),C2) else none
     | none=>none
    | some (some (.ce n))=>match dk with
     | .int z=>match d with
      | .int y=>match C2[n]? with
       | some ns=>match Ea ns.length z with
        | some j=>some (.nx,e2,C2.set n (ns.set j y))
        | none=>none
       | none=>none
      | _=>none
     | _=>none
    | _=>none
    else none
   | none=>none
  | _=>none
 | none=>none
theorem zx {i:Nat} {o k e:Expr} {fk:FB} {fe:FE} {p:Pos} (hu:X.A.units + 1 < cLine) (ho:PE X o (uc i)) (hk:PE X k (kY X.K fk)) (he:PE X e (tE X.K fe))
  (ha:∀v,assign (.Subscript o k p) X.env v=(do
   let ov ←holding [v] (eval o X.env)
   let iv ←holding [v,ov] (eval k X.env)
   standAt p
   holding [v,ov,iv] (setItem ov iv v)
   release [v,ov,iv] []):=by intro _; rfl)
  (hs:swapsWithSole [.Subscript o k p] e pos.line X.env=pure false:=by rfl) (hw:swappedStores [.Subscript o k p] e X.env=pure none:=by rfl) (h1:(assignEach [.Subscript o k p] X.env).map (·.2)=[assign (.Subscript o k p) X.env]:=by rfl):
  PS X (.Assign [.Subscript o k p] e pos) (tS X.K (uV i fk fe)):=(Du he (Te ho hk (Qx hu) ha) hs hw h1).weak fun D σ H aP=>by
 obtain ⟨Z,Θ,env,C,fl,env',C',S,hf,q⟩:=aP
 unfold uV at hf
 split at hf
 ·rename_i r e1 C1 h1
  split at hf
  ·rename_i d hd
   split at hf
   case h_2=>cases hf
   rename_i dk e2 C2 h2
   refine ⟨Z,Θ,env,C,r,e1,C1,S,h1,fun v H1 k1 f1 R1=>?_⟩
   obtain ⟨S1,r1⟩:=R1.lW hd
   split at hf
   ·rename_i h3
    obtain ⟨y3,h3⟩:=Qy h3
    obtain ⟨u,eu,_⟩:=S1.slot i _ h3
    refine ⟨u,eu,Z,Θ,e1,C1,dk,e2,C2,S1,h2,fun w H2 k2 f2 S2 b2=>?_⟩
    have r2:RZ (er (aK Z Θ e2 σ) H2) d v:=r1.same (Mg S1 k2 f2)
    have kk:=k1.trans k2
    have ff:=f1.trans f2
    split at hf
    ·rename_i ds hi
     split at hf
     case h_2=>cases hf
     rename_i z
     split at hf
     ·rename_i j hj
      cases hf
      obtain ⟨u',R7,a,ea,vs,ha,r3⟩:=S2.slot i _ hi
      subst ea
      rw [eu] at R7
      cases R7
      cases b2.int
      refine .inl (.inl ⟨a,vs,z,j,rfl,rfl,ha,by rw [bI r3]; exact hj,?_⟩)
      have wr:jf X.K Z Θ e2 σ H2 Θ (e2.set i (some (.ow (.list (ds.set j d))))) C' σ (upd H2 a (.lst (vs.set j v))):=S2.write hi eu ⟨_,aL,G6 r2 j r3⟩
      exact q Θ σ _ ((jf.Fg kk ff S2).trans wr)
     ·cases hf
    ·rename_i kvs hi
     split at hf
     ·rename_i kvs' hp
      split at hf
      ·rename_i hl
       cases hf
       obtain ⟨u',R7,a,ea,vs,da,r3⟩:=S2.slot i _ hi
       subst ea
       rw [eu] at R7
       cases R7
       unfold putD at hp
       split at hp
       ·rename_i k hk
        split at hp
        ·rename_i hs'
         cases hp
         have wk:w=kV k:=by
          cases dk <;> first | (cases hk; exact b2) | cases hk
         rcases da with ⟨ks,g1,ha⟩ | ⟨ks,⟨ne,g2⟩,ha⟩
         ·obtain ⟨ks',vs',g3,g4,g5⟩:=tV hk r2 g1 r3
          have hl':(ks.zip vs).length < sizeLine:=by
           rw [List.length_zip,sizeLine_eq,jW g1]
           unfold LIM at hl
           omega
          have dp:=vY.k (k:=k) (v:=v) ha hl'
          rw [←wk] at dp
          refine .inl (.inr ⟨a,_,rfl,dp,?_⟩)
          have wr:jf X.K Z Θ e2 σ H2 Θ (e2.set i (some (.ow (.dict (oN cN k dk d kvs))))) C' σ (upd H2 a (.dK (putK (ks.zip vs) k v))):=S2.write hi eu ⟨vs',.inl ⟨ks',g3,by rw [g5]; exact aL⟩,g4⟩
          exact q Θ σ _ ((jf.Fg kk ff S2).trans wr)
         ·obtain ⟨ZC,g1⟩:=Option.isSome_iff_exists.mp hs'
          exact absurd (jX g1 g2) ne
        ·cases hp
       ·split at hp
        ·rename_i UL hks
         split at hp
         ·rename_i hs'
          cases hp
          obtain ⟨b,hb,rfl⟩:∃b,H2 b=some (.tup (UL.map kV))∧w=.ref b:=by
           cases dk <;> first | cases hks | skip
           obtain ⟨b,ws,rfl,hb,rr⟩:=b2.tup
           rw [iG hks rr] at hb
           exact ⟨b,hb,rfl⟩
          have ne':∀kvs,oN lQ UL dk d kvs≠[]:=fun kvs z=>by
           unfold oN at z
           split at z
           ·rename_i hz
            cases kvs with
            | nil=>cases hz
            | cons _ _=>cases z
           ·cases kvs <;> cases z
          rcases da with ⟨ks,g1,ha⟩ | ⟨ks,⟨ne,g1⟩,ha⟩
          ·obtain ⟨ZC,g2⟩:=Option.isSome_iff_exists.mp hs'
           have e0:=jX g1 g2
           subst e0
           cases g1
           have e0:vs=[]:=r3
           subst e0
           obtain ⟨ks',vs',g3,g4,g5⟩:=tV (kvs:=[]) (vs:=[]) (ks:=[]) hks r2 rfl rfl
           refine .inr ⟨a,b,UL,rfl,ha,rfl,hb,?_⟩
           have wr:jf X.K Z Θ e2 σ H2 Θ (e2.set i (some (.ow (.dict (oN lQ UL dk d []))))) C' σ (upd H2 a (.dT [(UL,v)])):=S2.write hi eu ⟨vs',.inr ⟨ks',⟨ne' [],g3⟩,by rw [g5]; exact aL⟩,g4⟩
           exact q Θ σ _ ((jf.Fg kk ff S2).trans wr)
          ·obtain ⟨ks',vs',g3,g4,g5⟩:=tV hks r2 g1 r3
           have hl':(ks.zip vs).length < sizeLine:=by
            rw [List.length_zip,sizeLine_eq,jW g1]
            unfold LIM at hl
            omega
           refine .inl (.inr ⟨a,_,rfl,vY.t ha hb hl',?_⟩)
           have wr:jf X.K Z Θ e2 σ H2 Θ (e2.set i (some (.ow (.dict (oN lQ UL dk d kvs))))) C' σ (upd H2 a (.dT (putK (ks.zip vs) UL v))):=S2.write hi eu ⟨vs',.inr ⟨ks',⟨ne' kvs,g3⟩,by rw [g5]; exact aL⟩,g4⟩
           exact q Θ σ _ ((jf.Fg kk ff S2).trans wr)
         ·cases hp
        ·cases hp
      ·cases hf
     ·cases hf
    ·rename_i n hi
     split at hf
     case h_2=>cases hf
     rename_i z
     split at hf
     case h_2=>cases hf
     rename_i y
     split at hf
     ·rename_i ns hns
      split at hf
      ·rename_i j hj
       cases hf
       obtain ⟨u',R7,a,ea,hth⟩:=S2.slot i _ hi
       subst ea
       rw [eu] at R7
       cases R7
       cases b2.int
       have ev:v=.int y:=r2
       subst ev
       have ha:=S2.cell.at_ n a ns hth hns
       refine .inl (.inl ⟨a,_,z,j,rfl,rfl,ha,by rw [List.length_map]; exact hj,?_⟩)
       have am:a∈Θ:=List.mem_of_getElem? hth
       have kc:bK Θ H2 (upd H2 a (.lst ((ns.map V.int).set j (.int y)))):=⟨fun b o hb nb=>by rw [aJ (fun zz=>nb (by rw [zz]; exact am))]; exact hb,fun b hb=>by
        by_cases zz:b=a
        ·subst zz; rw [aL]; exact Option.some_ne_none _
        ·rw [aJ zz]; exact hb⟩
       have cc:dX Θ (C2.set n (ns.set j y)) (upd H2 a (.lst ((ns.map V.int).set j (.int y)))):=by
        refine ⟨by rw [List.length_set]; exact S2.cell.len,fun m b ms h5 h6=>?_⟩
        rcases get_set h6 with ⟨rfl,e6,_⟩ | ⟨nm,h6⟩
        ·rw [hth] at h5
         cases h5
         cases e6
         rw [aL,List.map_set]
        ·rw [aJ]
         ·exact S2.cell.at_ m b ms h5 h6
         ·intro zz
          subst zz
          have nd:=S2.jh.2.1
          have l1:=(List.getElem?_eq_some_iff.mp h5)
          have l2:=(List.getElem?_eq_some_iff.mp hth)
          obtain ⟨l1,l1'⟩:=l1
          obtain ⟨l2,l2'⟩:=l2
          rcases Nat.lt_trichotomy m n with hlt | heq | hgt
          ·exact List.pairwise_iff_getElem.mp nd m n l1 l2 hlt (l1'.trans l2'.symm)
          ·exact nm heq
          ·exact List.pairwise_iff_getElem.mp nd n m l2 l1 hgt (l2'.trans l1'.symm)
       exact q Θ σ _ ((jf.Fg kk ff S2).trans (jf.Fg kc (Fz.refl _) (S2.go kc cc)))
      ·cases hf
     ·cases hf
    ·cases hf
   ·cases hf
  ·cases hf
 ·cases hf
end
end L2
namespace L2
open PySem PySem.Spec PyProof.Rows PySem.W
noncomputable def intsOf:List PyData→Option (List Int)
 | []=>some []
 | .int i::r=>match intsOf r with
  | some t=>some (i::t)
  | none=>none
 | _=>none
theorem Bw {E:Hp}:∀{ds:List PyData} {ns:List Int} {vs:List V},intsOf ds=some ns→eY E ds vs→vs=ns.map V.int
 | [],ns,vs,h,r=>by cases h; exact r
 | .int i::ds,ns,vs,h,r=>by
  unfold intsOf at h
  split at h
  ·rename_i t ht
   cases h
   obtain ⟨u,w,rfl,q,s⟩:=r
   rw [Bw ht s]
   have:u=.int i:=q
   rw [this]
   rfl
  ·cases h
 | .none::_,_,_,h,_=>by cases h
 | .bool _::_,_,_,h,_=>by cases h
 | .str _::_,_,_,h,_=>by cases h
 | .list _::_,_,_,h,_=>by cases h
 | .tuple _::_,_,_,h,_=>by cases h
 | .dict _::_,_,_,h,_=>by cases h
noncomputable def My (i:Nat) (f:FE):FS:=fun env C=>match f env C with
 | some (.ow (.list ds),e1,C1)=>match intsOf ds with
  | some ns=>some (.nx,e1.set i (some (.ce C1.length)),C1++[ns])
  | none=>none
 | _=>none
section
variable {X:Cx} {pos:Pos}
theorem Mz {K:PySem.W.Frag} {i:Nat} {f:FE}:∀D σ H,tS K (My i f) D σ H→Ip (tE K f) (rZ i) D σ H:=by
 rintro D σ H ⟨Z,Θ,env,C,fl,env',C',S,hf,q⟩
 unfold My at hf
 split at hf
 ·rename_i ds e1 C1 h1
  split at hf
  ·rename_i ns hns
   cases hf
   refine ⟨Z,Θ,env,C,_,e1,C1,S,h1,fun v H1 k f R=>?_⟩
   obtain ⟨a,rfl,hn,S1,vs,ha,r⟩:=R
   have ev:=Bw hns r
   subst ev
   have jh:=S1.jh
   have Xb:=List.nodup_cons.mp jh.1
   have cl:=S1.cell.len
   have c':dX (Θ++[a]) (C1++[ns]) H1:=by
    refine ⟨by rw [List.length_append,List.length_append,cl]; rfl,fun m b ms h5 h6=>?_⟩
    by_cases hm:m < Θ.length
    ·rw [List.getElem?_append_left hm] at h5
     rw [List.getElem?_append_left (by rw [cl]; exact hm)] at h6
     exact S1.cell.at_ m b ms h5 h6
    ·rw [List.getElem?_append_right (by omega)] at h5
     rw [List.getElem?_append_right (by omega)] at h6
     rw [cl] at h6
     cases hm0:m - Θ.length with
     | zero=>rw [hm0] at h5 h6; cases h5; cases h6; exact ha
     | succ j=>rw [hm0] at h5; simp at h5
   have o1:∀b∈aV (e1.set i (some (.ce C1.length))) (σ.set i (some (.ref a))),b∈aV e1 σ:=fun b m=>by
    rcases jn m with m | ⟨⟨_,z⟩,_⟩
    ·exact m
    ·cases z
   have S2:Sm K Z (Θ++[a]) e1 (C1++[ns]) σ H1:=by
    have mm:∀b,b∈aK Z (Θ++[a]) e1 σ ↔ b∈aK (a::Z) Θ e1 σ:=fun b=>by
     rw [bF,bF,List.mem_append,List.mem_singleton,List.mem_cons]
     constructor
     ·rintro (h | (h | h) | h)
      ·exact .inl (.inr h)
      ·exact .inr (.inl h)
      ·exact .inl (.inl h)
      ·exact .inr (.inr h)
     ·rintro ((h | h) | h | h)
      ·exact .inr (.inl (.inr h))
      ·exact .inl h
      ·exact .inr (.inl (.inl h))
      ·exact .inr (.inr h)
    refine ⟨S1.len,Ux Xb.2 ?_ jh.2.2.1 (fun b m=>?_) fun b m=>?_,fun b m=>S1.dom b (List.mem_cons_of_mem _ m),fun j x e=>?_,c'⟩
    ·rw [List.nodup_append]
     exact ⟨jh.2.1,List.nodup_cons.mpr ⟨by simp,List.nodup_nil⟩,fun b m c m' e=>by
      rw [List.mem_singleton] at m'
      subst e m'
      exact jh.2.2.2 b List.mem_cons_self m⟩
    ·intro m'
     rcases List.mem_append.mp m' with m' | m'
     ·exact jh.2.2.2 b (List.mem_cons_of_mem _ m) m'
     ·rw [List.mem_singleton.mp m'] at m
      exact Xb.1 m
    ·obtain ⟨p1,p2⟩:=S1.eZ m
     refine ⟨fun z=>p1 (List.mem_cons_of_mem _ z),fun m'=>?_⟩
     rcases List.mem_append.mp m' with m' | m'
     ·exact p2 m'
     ·rw [List.mem_singleton.mp m'] at p1
      exact p1 List.mem_cons_self
    ·obtain ⟨v,e3,r3⟩:=S1.slot j x e
     rw [gW mm]
     refine ⟨v,e3,?_⟩
     cases x with
     | im d=>exact r3
     | ow d=>exact r3
     | ce n=>
      obtain ⟨b,e5,e6⟩:=r3
      exact ⟨b,e5,by rw [List.getElem?_append_left (List.getElem?_eq_some_iff.mp e6).1]; exact e6⟩
     | sc ns=>exact r3
   have S3:Sm K Z (Θ++[a]) (e1.set i (some (.ce C1.length))) (C1++[ns]) (σ.set i (some (.ref a))) H1:=
    S2.Ff (fun _ z=>nomatch z) ⟨a,rfl,by rw [cl,List.getElem?_append_right (Nat.le_refl _),Nat.sub_self]; rfl⟩
   exact q (Θ++[a]) _ H1 ⟨⟨[a],rfl,fun b m=>by rw [List.mem_singleton.mp m]; exact hn⟩,jo k,fun b m=>.inl (f.own.subset (o1 b m)),S3⟩
  ·cases hf
 ·cases hf
theorem UT {i:Nat} {x:Str} {e:Expr} {f:FE} {pos':Pos} (hN:X.N.Nodup) (hi:X.N[i]?=some x) (hx:Loc X.env.scope x) (he:PE X e (tE X.K f)) (hs:swapsWith e (some (.Name x pos')) pos.line X.env=pure false:=by rfl) (hf:X.fn x=true∨X.env.scope.names.lookup x=some .local:=by first | exact .inl rfl | exact .inr rfl | assumption):
  PS X (.Assign [.Name x pos'] e pos) (tS X.K (My i f)):=(Ks hN hi hx he hs hf).weak Mz
noncomputable def Qz (i:Nat) (f:FB):FS:=fun env C=>match env[i]? with
 | some (some (.im (.int x)))=>match f env C with
  | some (.int y,_,C1)=>some (.nx,env.set i (some (.im (.int (x + y)))),C1)
  | _=>none
 | _=>none
theorem UW {i:Nat} {x:Str} {e:Expr} {f:FB} {pos':Pos} (hN:X.N.Nodup) (hi:X.N[i]?=some x) (hx:Loc X.env.scope x) (he:PE X e (kY X.K f)) (hf:X.fn x=true∨X.env.scope.names.lookup x=some .local:=by first | exact .inl rfl | exact .inr rfl | assumption):
  PS X (.AugAssign (.Name x pos') .Add e pos) (tS X.K (Qz i f)):=(Th hN hi hx he Ti hf).weak fun D σ H aP=>by
 obtain ⟨Z,Θ,env,C,fl,env',C',S,hf,q⟩:=aP
 unfold Qz at hf
 split at hf
 ·rename_i z h0
  split at hf
  ·rename_i y e1 C1 h1
   cases hf
   obtain ⟨v,ev,r⟩:=S.slot i _ h0
   refine ⟨v,ev,Z,Θ,env,C,_,e1,C',S,h1,fun w H1 k f S1 b1=>⟨z,y,r,b1,?_⟩⟩
   have S2:=S.go k S1.cell
   refine q Θ _ H1 ⟨xP.refl _ _,jo k,fun a m=>?_,S2.Ff (fun _ z=>nomatch z) (rfl:RZ _ (.int (z + y)) _)⟩
   rcases jn m with m | ⟨⟨_,z⟩,_⟩
   ·exact .inl m
   ·cases z
  ·cases hf
 ·cases hf
end
noncomputable def cP (c:FT) (body:FS):Nat→FS
 | 0=>fun _ _=>none
 | n + 1=>fun env C=>match c env C with
  | some (false,C1)=>some (.nx,env,C1)
  | some (true,C1)=>match body env C1 with
   | some (.nx,e2,C2)=>cP c body n e2 C2
   | some (.ct,e2,C2)=>cP c body n e2 C2
   | some (.bk,e2,C2)=>some (.nx,e2,C2)
   | some (.rt r,e2,C2)=>some (.rt r,e2,C2)
   | none=>none
  | none=>none
noncomputable def By:Nat:=100000
noncomputable def QB (c:FT) (body:FS):FS:=cP c body By
theorem Fo {K:PySem.W.Frag} {c:FT} {body:FS} {n:Nat}:∀D σ H,tS K (cP c body n) D σ H→Ku (mO K c) (tS K body) D σ H:=by
 rintro D σ H ⟨Z,Θ,env,C,fl,env',C',S,hf,q⟩
 refine ⟨fun m σ1 H1=>∃Θ1 e1 C1,jf K Z Θ env σ H Θ1 e1 C1 σ1 H1∧cP c body m e1 C1=some (fl,env',C'),⟨n,Θ,env,C,jf.same S,hf⟩,?_⟩
 rintro m σ1 H1 ⟨Θ1,e1,C1,p,hf⟩
 cases m with
 | zero=>cases hf
 | succ m=>
  unfold cP at hf
  split at hf
  ·rename_i C2 h1
   cases hf
   exact ⟨Z,Θ1,env',C1,false,C',p.sm,h1,fun H2 k2 S2=>vZ (q Θ1 σ1 H2 (p.trans (jf.Fg k2 (Fz.refl _) S2)))⟩
  ·rename_i C2 h1
   refine ⟨Z,Θ1,e1,C1,true,C2,p.sm,h1,fun H2 k2 S2=>wg ⟨fun σ' H'=>∃Θ1 e1 C1,jf K Z Θ env σ H Θ1 e1 C1 σ' H'∧cP c body m e1 C1=some (fl,env',C'),fun σ' H' h=>⟨m,Nat.lt_succ_self m,h⟩,?_⟩⟩
   have p2:=p.trans (jf.Fg k2 (Fz.refl _) S2)
   split at hf
   ·rename_i e3 C3 h2
    exact ⟨Z,Θ1,e1,C2,.nx,e3,C3,S2,h2,fun Θ3 σ3 H3 p3=>⟨Θ3,e3,C3,p2.trans p3,hf⟩⟩
   ·rename_i e3 C3 h2
    exact ⟨Z,Θ1,e1,C2,.ct,e3,C3,S2,h2,fun Θ3 σ3 H3 p3=>⟨Θ3,e3,C3,p2.trans p3,hf⟩⟩
   ·rename_i e3 C3 h2
    cases hf
    exact ⟨Z,Θ1,e1,C2,.bk,env',C',S2,h2,fun Θ3 σ3 H3 p3=>q Θ3 σ3 H3 (p2.trans p3)⟩
   ·rename_i r e3 C3 h2
    cases hf
    exact ⟨Z,Θ1,e1,C2,.rt r,env',C',S2,h2,fun Θ3 v H3 p3=>q Θ3 v H3 (p2.ret p3)⟩
   ·cases hf
  ·cases hf
theorem qD {X:Cx} {pos:Pos} {c:Expr} {body:List Stmt} {t:FT} {f:FS} (hp:PassesOwn (model X.prog X.w) X.A X.env X.xe) (hc:PT X c (mO X.K t)) (hb:sY X body (tS X.K f)):PS X (.While c body [] pos) (tS X.K (QB t f)):=(Kv hp hc hb).weak Fo
noncomputable abbrev FI:=En→Ce→Option (List PyData×En×Ce)
noncomputable def wC (P T:List Addr) (H:Hp) (J:It) (its:List PyData):Prop:=∀(i:Nat) (H2:Hp) (P2:List Addr),aQ (er P H) (er P2 H2)→aQ (er T H) (er T H2)→(∀a∈P2,H2 a≠none)→
 (∀d,its[i]?=some d→J.go i H2∧∀x H3,J.Rw i H2 x H3→aQ H2 H3∧RZ (er P2 H3) d x)∧(i=its.length→J.stop i H2)
noncomputable def tI (K:PySem.W.Frag) (b:Bool) (f:FI):TI:=fun σ H R=>∃Z Θ env C its env' C',Sm K Z Θ env C σ H∧f env C=some (its,env',C')∧
 ∀J H',bK Θ H H'→Fz env env'→Sm K Z Θ env' C' σ H'→wC (aK Z Θ env' σ) (if b then Θ else aK Z Θ env' σ) H' J its→R J H'
theorem PI.weak {X:Cx} {tg e:Expr} {t t':TI} (h:PI X tg e t) (w:∀σ H Q,t' σ H Q→t σ H Q):PI X tg e t':=fun pins s σ H Q I q=>h pins s σ H Q I (w σ H Q q)
theorem PI.or {X:Cx} {tg e:Expr} {t t':TI} (h:PI X tg e t) (h':PI X tg e t'):PI X tg e (fun σ H R=>t σ H R∨t' σ H R):=fun pins s σ H R I q=>q.elim (h pins s σ H R I) (h' pins s σ H R I)
section
variable {K:PySem.W.Frag} {P T:List Addr} {H:Hp} {a:Addr} {ds:List PyData} {vs:List V}
theorem tW (ha:er T H a=some (.lst vs)) (r:eY (er P H) ds vs):wC P T H (YX K a) ds:=fun i H2 P2 s1 s2 n=>by
 have h2:cZ K H2 a vs:=cZ.of (bw (s2 _ _ ha))
 refine ⟨fun d hd=>?_,fun hi=>⟨vs,h2,by rw [bI r,hi]; exact Nat.le_refl _⟩⟩
 obtain ⟨v,ev,rv⟩:=m5 r hd
 refine ⟨⟨vs,v,h2,ev⟩,fun x H3 y=>?_⟩
 obtain ⟨rfl,y⟩:=y
 have:=y vs h2
 rw [ev] at this
 cases this
 exact ⟨aQ.refl _,rv.same s1⟩
theorem zy (ha:er P H a=some (.tup vs)) (r:eY (er P H) ds vs):wC P T H (YZ K a) ds:=fun i H2 P2 s1 s2 n=>by
 have h2:ig K H2 a vs:=ig.of (bw (s1 _ _ ha))
 refine ⟨fun d hd=>?_,fun hi=>⟨vs,h2,by rw [bI r,hi]; exact Nat.le_refl _⟩⟩
 obtain ⟨v,ev,rv⟩:=m5 r hd
 refine ⟨⟨vs,v,h2,ev⟩,fun x H3 y=>?_⟩
 obtain ⟨rfl,y⟩:=y
 have:=y vs h2
 rw [ev] at this
 cases this
 exact ⟨aQ.refl _,rv.same s1⟩
noncomputable def chars (z:Str):List PyData:=z.cps.toList.map fun c=>.str ⟨#[c]⟩
theorem MF (z:Str):wC P T H (Zk z) (chars z):=fun i H2 P2 s1 s2 n=>by
 refine ⟨fun d hd=>?_,fun hi=>?_⟩
 ·unfold chars at hd
  rw [List.getElem?_map] at hd
  cases hc:z.cps.toList[i]? with
  | none=>rw [hc] at hd; cases hd
  | some c=>
   rw [hc] at hd
   cases hd
   have hc':z.cps[i]?=some c:=by rw [←Array.getElem?_toList]; exact hc
   have hlt:i < z.cps.size:=by
    obtain ⟨h,_⟩:=Array.getElem?_eq_some_iff.mp hc'
    exact h
   refine ⟨hlt,fun x H3 y=>?_⟩
   obtain ⟨rfl,c',ec,rfl⟩:=y
   rw [hc'] at ec
   cases ec
   exact ⟨aQ.refl _,rfl⟩
 ·show z.cps.size≤i
  rw [hi]
  unfold chars
  rw [List.length_map,Array.length_toList]
  exact Nat.le_refl _
noncomputable def iT (lo:Int) (n:Nat):List PyData:=(List.range n).map fun (k:Nat)=>.int (lo + (k:Int))
theorem BJ (lo:Int) (n:Nat):wC P T H (V6 lo n) (iT lo n):=fun i H2 P2 s1 s2 nn=>by
 refine ⟨fun d hd=>?_,fun hi=>?_⟩
 ·unfold iT at hd
  rw [List.getElem?_map] at hd
  by_cases hlt:i < n
  ·rw [List.getElem?_range hlt] at hd
   cases hd
   refine ⟨hlt,fun x H3 y=>?_⟩
   obtain ⟨rfl,rfl⟩:=y
   exact ⟨aQ.refl _,rfl⟩
  ·rw [List.getElem?_eq_none (by rw [List.length_range]; omega)] at hd
   cases hd
 ·show n≤i
  rw [hi]
  unfold iT
  rw [List.length_map,List.length_range]
  exact Nat.le_refl _
end
noncomputable def itD:PyData→Option (List PyData)
 | .list ds=>some ds
 | .tuple ds=>some ds
 | .str z=>some (chars z)
 | _=>none
noncomputable def iB (f:FB):FI:=fun env C=>match f env C with
 | some (d,e1,C1)=>match itD d with
  | some its=>some (its,e1,C1)
  | none=>none
 | none=>none
noncomputable def iV (f:FE):FI:=fun env C=>match f env C with
 | some (r,e1,C1)=>match still r with
  | .im d=>match itD d with
   | some its=>some (its,e1,C1)
   | none=>none
  | _=>none
 | none=>none
noncomputable def tG (f:FB):FI:=fun env C=>match f env C with
 | some (.int j,_,C1)=>if -(2 ^ 62)≤j∧j < 2 ^ 62 then some (iT 0 j.toNat,env,C1) else none
 | _=>none
section
variable {X:Cx} {tg e:Expr}
theorem ZD {f:FB} (h:PE X e (kY X.K f)) (hgo:∀i u,letOwnedTupleGo tg i u=pure ():=by intro _ _; rfl):PI X tg e (tI X.K true (iB f)):=(((tK h).or (yE h)).or (Lg h hgo)).weak fun σ H R aP=>by
 obtain ⟨Z,Θ,env,C,its,env',C',S,hf,q⟩:=aP
 unfold iB at hf
 split at hf
 ·rename_i d e1 C1 h1
  split at hf
  ·rename_i ys hi
   cases hf
   cases d <;> first | cases hi | skip
   ·refine .inr ⟨Z,Θ,env,C,_,env',C',S,h1,fun v H1 k f S1 b=>⟨_,b,q _ H1 k f S1 (MF _)⟩⟩
   ·refine .inl (.inl ⟨Z,Θ,env,C,_,env',C',S,h1,fun v H1 k f S1 b=>?_⟩)
    obtain ⟨a,vs,rfl,ha,r⟩:=b
    exact ⟨a,rfl,⟨vs,cZ.of (bw ha)⟩,q _ H1 k f S1 (tW ha r)⟩
   ·refine .inl (.inr ⟨Z,Θ,env,C,_,env',C',S,h1,fun v H1 k f S1 b=>?_⟩)
    obtain ⟨a,vs,rfl,ha,r⟩:=b
    exact ⟨a,rfl,⟨vs,ig.of (bw ha)⟩,q _ H1 k f S1 (zy ha r)⟩
  ·cases hf
 ·cases hf
theorem U0 {f:FE} (h:PE X e (tE X.K f)) (hgo:∀i u,letOwnedTupleGo tg i u=pure ():=by intro _ _; rfl):PI X tg e (tI X.K false (iV f)):=(((tK h).or (yE h)).or (Lg h hgo)).weak fun σ H R aP=>by
 obtain ⟨Z,Θ,env,C,its,env',C',S,hf,q⟩:=aP
 unfold iV at hf
 split at hf
 ·rename_i r e1 C1 h1
  split at hf
  ·rename_i d hd
   split at hf
   ·rename_i ys hi
    cases hf
    cases d <;> first | cases hi | skip
    ·refine .inr ⟨Z,Θ,env,C,_,env',C',S,h1,fun v H1 k f R=>?_⟩
     obtain ⟨S1,b⟩:=R.lW hd
     exact ⟨_,b,q _ H1 k f S1 (MF _)⟩
    ·refine .inl (.inl ⟨Z,Θ,env,C,_,env',C',S,h1,fun v H1 k f R=>?_⟩)
     obtain ⟨S1,a,vs,rfl,ha,r⟩:=R.lW hd
     exact ⟨a,rfl,⟨vs,cZ.of (bw ha)⟩,q _ H1 k f S1 (tW ha r)⟩
    ·refine .inl (.inr ⟨Z,Θ,env,C,_,env',C',S,h1,fun v H1 k f R=>?_⟩)
     obtain ⟨S1,a,vs,rfl,ha,r⟩:=R.lW hd
     exact ⟨a,rfl,⟨vs,ig.of (bw ha)⟩,q _ H1 k f S1 (zy ha r)⟩
   ·cases hf
  ·cases hf
 ·cases hf
theorem fU {b:Bool} {a:Expr} {f:FB} {p pos:Pos} (hg:Gl X "range") (hm:X.mg "range"=none) (ha:PE X a (kY X.K f)) (hs:starEach [a] X.env=(false,eval a X.env)::starEach [] X.env:=by rfl) (hs':starEach [a] X.env=[(false,eval a X.env)]:=by rfl):PI X tg (.Call (.Name "range" p) [a] [] pos) (tI X.K b (tG f)):=
 (Iu hg hm (bL ha cG hs) hs').weak fun σ H R aP=>by
  obtain ⟨Z,Θ,env,C,its,env',C',S,hf,q⟩:=aP
  unfold tG at hf
  split at hf
  ·rename_i j e1 C1 h1
   split at hf
   ·rename_i hj
    cases hf
    refine ⟨Z,Θ,env,C,[.int j],e1,C',S,by unfold bCons bNil; rw [h1],fun vs H1 k f S1 b1=>?_⟩
    cases b1 with
    | cons b1 b2=>
     cases b2
     exact ⟨j,by rw [show _=V.int j from b1],hj.1,hj.2,q _ H1 k (Fz.refl _) (S.go k S1.cell) (BJ 0 j.toNat)⟩
   ·cases hf
  ·cases hf
end
noncomputable def iU (g:FG) (body:FS):List PyData→FS
 | []=>fun env C=>some (.nx,env,C)
 | d::r=>fun env C=>match g d env with
  | some e1=>match body e1 C with
   | some (.nx,e2,C2)=>iU g body r e2 C2
   | some (.ct,e2,C2)=>iU g body r e2 C2
   | some (.bk,e2,C2)=>some (.nx,e2,C2)
   | some (.rt v,e2,C2)=>some (.rt v,e2,C2)
   | none=>none
  | none=>none
noncomputable def iz (fi:FI) (g:FG) (body:FS):FS:=fun env C=>match fi env C with
 | some (its,e1,C1)=>iU g body its e1 C1
 | none=>none
theorem jf.er {K:PySem.W.Frag} {Z Θ Θ1:List Addr} {env e1:En} {C1:Ce} {σ σ1:St} {H H1:Hp} (p:jf K Z Θ env σ H Θ1 e1 C1 σ1 H1):aQ (er (aK Z Θ env σ) H) (er (aK Z Θ1 e1 σ1) H1):=fun b o h=>by
 unfold L2.er at h ⊢
 split at h
 ·cases h
 ·rename_i n
  have hb:H b≠none:=by rw [h]; exact Option.some_ne_none _
  rw [if_neg]
  ·refine p.kp.keep b o h fun m=>n ?_
   rcases List.mem_append.mp m with m | m
   ·exact bF.mpr (.inr (.inl m))
   ·exact bF.mpr (.inr (.inr m))
  ·intro m
   rcases bF.mp m with m | m | m
   ·exact n (bF.mpr (.inl m))
   ·obtain ⟨Δ,e,hn⟩:=p.th.ex
    rw [e] at m
    rcases List.mem_append.mp m with m | m
    ·exact n (bF.mpr (.inr (.inl m)))
    ·exact hb (hn b m)
   ·rcases p.own b m with m | m
    ·exact n (bF.mpr (.inr (.inr m)))
    ·exact hb m
theorem QC {P P2:List Addr} {H H2:Hp} (s:aQ (er P H) (er P2 H2)):aQ (er P H) (er P H2):=fun b o h=>by
 have h2:=bw (s b o h)
 unfold er at h ⊢
 split at h
 ·cases h
 ·rename_i n
  rw [if_neg n]
  exact h2
theorem MJ {K:PySem.W.Frag} {fi:FI} {g:TG} {fg:FG} {body:FS} (L:VH K g fg):∀D σ H,tS K (iz fi fg body) D σ H→Wa (tI K false fi) g (tS K body) D σ H:=by
 rintro D σ H ⟨Z,Θ,env,C,fl,env',C',S,hf,q⟩
 unfold iz at hf
 split at hf
 ·rename_i its e1 C1 h1
  refine ⟨Z,Θ,env,C,its,e1,C1,S,h1,fun J H1 k1 f1 S1 it=>?_⟩
  have p1:=jf.Fg k1 f1 S1
  refine ⟨fun i m σ2 H2=>m=its.length - i∧i≤its.length∧∃Θ2 e2 C2,jf K Z Θ e1 σ H1 Θ2 e2 C2 σ2 H2∧iU fg body (its.drop i) e2 C2=some (fl,env',C'),⟨its.length,rfl,Nat.zero_le _,Θ,e1,C1,jf.same S1,hf⟩,?_⟩
  rintro i m σ2 H2 ⟨rfl,hi,Θ2,e2,C2,p2,hl⟩
  obtain ⟨U3,U4⟩:=it i H2 (aK Z Θ2 e2 σ2) p2.er (QC p2.er) p2.sm.yW
  cases hd:its[i]? with
  | none=>
   have hi2:i=its.length:=by
    have:=List.getElem?_eq_none_iff.mp hd
    omega
   rw [hi2,List.drop_length] at hl
   cases hl
   exact .inl ⟨U4 hi2,q Θ2 σ2 H2 (p1.trans p2)⟩
  | some d=>
   have hlt:i < its.length:=(List.getElem?_eq_some_iff.mp hd).1
   have ed:its.drop i=d::its.drop (i + 1):=by
    rw [List.drop_eq_getElem_cons hlt]
    obtain ⟨_,e⟩:=List.getElem?_eq_some_iff.mp hd
    rw [e]
   rw [ed] at hl
   unfold iU at hl
   obtain ⟨go,yl⟩:=U3 d hd
   refine .inr ⟨go,fun σ' H'=>∃Θ2 e2 C2,jf K Z Θ e1 σ H1 Θ2 e2 C2 σ' H'∧iU fg body (its.drop (i + 1)) e2 C2=some (fl,env',C'),fun σ' H' h=>⟨its.length - (i + 1),by omega,rfl,hlt,h⟩,fun x H3 y=>?_⟩
   obtain ⟨s3,r3⟩:=yl x H3 y
   have S3:=p2.sm.uJ s3
   have p3:=p2.trans (jf.Fg (bK.of s3) (Fz.refl _) S3)
   split at hl
   ·rename_i e4 h4
    refine L Z Θ2 e2 C2 σ2 H3 x d e4 S3 r3 h4 _ fun σ4 S4 o4=>?_
    have p4:jf K Z Θ e1 σ H1 Θ2 e4 C2 σ4 H3:=p3.trans ⟨xP.refl _ _,bK.refl _ _,fun a m=>.inl (o4 a m),S4⟩
    split at hl
    ·rename_i e5 C5 h5
     exact ⟨Z,Θ2,e4,C2,.nx,e5,C5,S4,h5,fun Θ5 σ5 H5 p5=>⟨Θ5,e5,C5,p4.trans p5,hl⟩⟩
    ·rename_i e5 C5 h5
     exact ⟨Z,Θ2,e4,C2,.ct,e5,C5,S4,h5,fun Θ5 σ5 H5 p5=>⟨Θ5,e5,C5,p4.trans p5,hl⟩⟩
    ·rename_i e5 C5 h5
     cases hl
     exact ⟨Z,Θ2,e4,C2,.bk,env',C',S4,h5,fun Θ5 σ5 H5 p5=>q Θ5 σ5 H5 (p1.trans (p4.trans p5))⟩
    ·rename_i r e5 C5 h5
     cases hl
     exact ⟨Z,Θ2,e4,C2,.rt r,env',C',S4,h5,fun Θ5 v H5 p5=>q Θ5 v H5 (p1.ret (p4.ret p5))⟩
    ·cases hl
   ·cases hl
 ·cases hf
theorem jG {X:Cx} {pos:Pos} {tg iter:Expr} {body:List Stmt} {fi:FI} {g:TG} {fg:FG} {f:FS} (hp:PassesOwn (model X.prog X.w) X.A X.env X.xe) (hc:X.calm=true) (hi:PI X tg iter (tI X.K false fi)) (hg:PG X tg g) (L:VH X.K g fg) (hb:sY X body (tS X.K f))
  (hs:∀x,foldedSetIterable iter X.env x=pure x:=by intro _; rfl):PS X (.For tg iter body [] pos) (tS X.K (iz fi fg f)):=(Tj hp hc hi hg hb hs).weak (MJ L)
end L2
namespace L2
open PySem PySem.Spec PyProof.Rows PySem.W
noncomputable def U5:oU→PyData→Option (List PyData)
 | .one,d=>some [d]
 | .many n,.tuple ds=>if ds.length=n then some ds else none
 | _,_=>none
noncomputable def frB (js:List Nat) (env:En):En:=js.map fun j=>((env[j]?).join).map still
noncomputable def ji (ds:List PyData):En:=ds.map fun d=>some (.im d)
noncomputable def fV (T:oU) (ft:FT) (fe:FE) (fs:En):List PyData→Ce→Option (List PyData×Ce)
 | [],C=>some ([],C)
 | d::r,C=>match U5 T d with
  | some ts=>match ft (ji ts++fs) C with
   | some (false,C1)=>fV T ft fe fs r C1
   | some (true,C1)=>match fe (ji ts++fs) C1 with
    | some (x,_,C2)=>match still x with
     | .im y=>match fV T ft fe fs r C2 with
      | some (ys,C3)=>some (y::ys,C3)
      | none=>none
     | _=>none
    | none=>none
   | none=>none
  | none=>none
noncomputable def nY (js:List Nat) (env:En):En:=env.mapIdx fun i x=>if i∈js then x.map still else x
noncomputable def fLC (fi:FI) (T:oU) (ft:FT) (fe:FE) (js:List Nat):FE:=fun env C=>match fi env C with
 | some (its,e1,C1)=>match fV T ft fe (frB js e1) its C1 with
  | some (ys,C2)=>if ys.length≤LIM then some (.ow (.list ys),if d8 ys then e1 else nY js e1,C2) else none
  | none=>none
 | none=>none
theorem R8:∀{a b:En},a.length=b.length→(∀(i:Nat) (x y:Option Vl),a[i]?=some x→b[i]?=some y→Zu x y)→Fz a b
 | [],[],_,_=>trivial
 | x::r,y::t,hl,h=>⟨h 0 x y rfl rfl,R8 (by simpa using hl) fun i u v h1 h2=>h (i + 1) u v (by simpa using h1) (by simpa using h2)⟩
 | [],_::_,hl,_=>by cases hl
 | _::_,[],hl,_=>by cases hl
theorem nq (js:List Nat) (env:En):Fz env (nY js env):=R8 (by unfold nY; rw [List.length_mapIdx]) fun i x y h1 h2=>by
 unfold nY at h2
 rw [List.getElem?_mapIdx,h1] at h2
 have h2:(if i∈js then Option.map still x else x)=y:=Option.some.inj h2
 rw [←h2]
 split
 ·cases x with
  | none=>exact .inl rfl
  | some x=>
   cases x with
   | ow d=>exact .inr ⟨d,rfl,rfl⟩
   | im d=>exact .inl rfl
   | ce n=>exact .inl rfl
   | sc ns=>exact .inl rfl
 ·exact .inl rfl
theorem MK {js:List Nat} {env:En} {k:Nat} {x:Vl} (h:(frB js env)[k]?=some (some x)):∃j:Nat,js[k]?=some j∧(nY js env)[j]?=some (some x)∧∀d,x≠.ow d:=by
 unfold frB at h
 rw [List.getElem?_map] at h
 cases hj:js[k]? with
 | none=>rw [hj] at h; cases h
 | some j=>
  rw [hj] at h
  have h':((env[j]?).join).map still=some x:=Option.some.inj h
  refine ⟨j,rfl,?_,?_⟩
  ·unfold nY
   rw [List.getElem?_mapIdx]
   cases hv:env[j]? with
   | none=>rw [hv] at h'; cases h'
   | some y=>
    rw [hv] at h'
    show some (if j∈js then Option.map still y else y)=_
    rw [if_pos (List.mem_of_getElem? hj)]
    exact congrArg some h'
  ·cases hv:(env[j]?).join with
   | none=>rw [hv] at h'; cases h'
   | some y=>
    rw [hv] at h'
    have e:still y=x:=Option.some.inj h'
    rw [←e]
    intro d z
    cases y <;> cases z
theorem lz:∀{env:En} {σ:St},(∀(i:Nat) (d:PyData),env[i]?≠some (some (.ow d)))→aV env σ=[]
 | [],σ,_=>by cases σ <;> rfl
 | _::_,[],_=>rfl
 | x::e,v::s,h=>by
  rw [aV,lz (env:=e) (σ:=s) fun i d z=>h (i + 1) d (by simpa using z)]
  have h0:=h 0
  simp at h0
  unfold own1
  split
  ·rename_i d a
   exact absurd rfl (h0 d)
  ·rfl
section
variable {K:PySem.W.Frag} {Z Θ:List Addr} {env:En} {C C2:Ce} {σ:St} {H H2:Hp} {D:Addr}
noncomputable abbrev lA (D:Addr) (Z:List Addr) (env:En) (σ:St):List Addr:=D::(Z++aV env σ)
theorem eV {js:List Nat} {a:Addr} {eB:En} {sB:St} (h:aV eB sB=[]):a∈aK (lA D Z env σ) Θ eB sB ↔ a=D∨a∈aK Z Θ env σ:=by
 rw [bF,bF,h,List.mem_cons,List.mem_append]
 constructor
 ·rintro ((h | h | h) | h | h)
  ·exact .inl h
  ·exact .inr (.inl h)
  ·exact .inr (.inr (.inr h))
  ·exact .inr (.inr (.inl h))
  ·nomatch h
 ·rintro (h | h | h | h)
  ·exact .inl (.inl h)
  ·exact .inl (.inr (.inl h))
  ·exact .inr (.inl h)
  ·exact .inl (.inr (.inr h))
theorem pH {js:List Nat} {ts:List PyData}:∀(i:Nat) (d:PyData),(ji ts++frB js env)[i]?≠some (some (.ow d)):=fun i d z=>by
 by_cases hi:i < (ji ts).length
 ·rw [List.getElem?_append_left hi] at z
  unfold ji at z
  rw [List.getElem?_map] at z
  cases h:ts[i]? with
  | none=>rw [h] at z; cases z
  | some t=>rw [h] at z; cases z
 ·rw [List.getElem?_append_right (by omega)] at z
  obtain ⟨j,_,_,h⟩:=MK z
  exact h d rfl
theorem Sm.blk {js:List Nat} {ts:List PyData} {vs:List V} (S:Sm K Z Θ (nY js env) C σ H) (hD:H D=Option.none) (k:bK Θ H H2) (nt:NT (H2 D)) (c:dX Θ C2 H2) (r:eY (er (aK (lA D Z (nY js env) σ) Θ [] []) H2) ts vs):
  Sm K (lA D Z (nY js env) σ) Θ (ji ts++frB js env) C2 (vs.map some++frees js σ) H2:=by
 have no:=lz (env:=ji ts++frB js env) (σ:=vs.map some++frees js σ) pH
 have jh:=S.jh
 have lv:=bI r
 have Yk:(ji ts).length=ts.length:=by unfold ji; rw [List.length_map]
 have ee:er (aK (lA D Z (nY js env) σ) Θ (ji ts++frB js env) (vs.map some++frees js σ)) H2=er (aK (lA D Z (nY js env) σ) Θ [] []) H2:=gW fun a=>by rw [eV (js:=js) no,eV (js:=js) rfl]
 have sm:aQ (er (aK Z Θ (nY js env) σ) H) (er (aK (lA D Z (nY js env) σ) Θ [] []) H2):=fB k S.G7 fun b m=>by
  rcases (eV (js:=js) rfl).mp m with rfl | m
  ·exact .inr hD
  ·exact .inl m
 refine ⟨?_,?_,fun b m=>?_,fun i x e=>?_,c⟩
 ·rw [List.length_append,List.length_append,List.length_map,lv,Yk]
  unfold frees frB
  rw [List.length_map,List.length_map]
 ·show (lA D Z (nY js env) σ++(Θ++aV (ji ts++frB js env) (vs.map some++frees js σ))).Nodup
  rw [no]
  refine Ux (List.nodup_cons.mpr ⟨fun m=>?_,?_⟩) jh.2.1 List.nodup_nil (fun b m m'=>?_) (fun _ m=>nomatch m)
  ·rcases List.mem_append.mp m with m | m
   ·exact (S.dom D m).ne hD
   ·exact S.yW D (bF.mpr (.inr (.inr m))) hD
  ·rw [List.nodup_append]
   exact ⟨jh.1,jh.2.2.1,fun b m c' m' e=>by subst e; exact (S.eZ m').1 m⟩
  ·rcases List.mem_cons.mp m with rfl | m
   ·exact S.yW b (bF.mpr (.inr (.inl m'))) hD
   ·rcases List.mem_append.mp m with m | m
    ·exact jh.2.2.2 b m m'
    ·exact (S.eZ m).2 m'
 ·rcases List.mem_cons.mp m with rfl | m
  ·exact nt
  ·have:NT (H b)∧b∉Θ:=by
    rcases List.mem_append.mp m with m | m
    ·exact ⟨S.dom b m,jh.2.2.2 b m⟩
    ·exact ⟨S.Yj b (bF.mpr (.inr (.inr m))),(S.eZ m).2⟩
   obtain ⟨⟨u,e,n⟩,nb⟩:=this
   exact ⟨u,k.keep _ _ e nb,n⟩
 ·rw [ee]
  by_cases hi:i < ts.length
  ·rw [List.getElem?_append_left (by rw [Yk]; exact hi)] at e
   unfold ji at e
   rw [List.getElem?_map] at e
   cases ht:ts[i]? with
   | none=>rw [ht] at e; cases e
   | some t=>
    rw [ht] at e
    cases e
    obtain ⟨v,ev,rv⟩:=m5 r ht
    exact ⟨v,by rw [List.getElem?_append_left (by rw [List.length_map,lv]; exact hi),List.getElem?_map,ev]; rfl,rv⟩
  ·rw [List.getElem?_append_right (by rw [Yk]; omega),Yk] at e
   obtain ⟨j,hj,hx,nx⟩:=MK e
   obtain ⟨v,ev,rv⟩:=S.slot j x hx
   refine ⟨v,?_,rv.same sm fun d _ z=>absurd z (nx d)⟩
   rw [List.getElem?_append_right (by rw [List.length_map,lv]; omega),List.length_map,lv]
   unfold frees
   rw [List.getElem?_map,hj]
   show some ((σ[j]?).join)=_
   rw [ev]
   rfl
end
noncomputable def gH:FT:=fun _ C=>some (true,C)
theorem lB {X:Cx}:Dr X [] (mO X.K gH):=fun pins s σ H Q I aP=>by
 obtain ⟨Z,Θ,env,C,b,C',S,hf,q⟩:=aP
 cases hf
 exact P0 pins s σ H Q I (q H (bK.refl _ _) S)
theorem tX {X:Cx} {c:Expr} {f:FT} (h:PT X c (mO X.K f)):Dr X [c] (mO X.K f):=Qa h
theorem MN {K:PySem.W.Frag} {T:oU} {E H:Hp} {d:PyData} {x:V} {ts:List PyData} (h:U5 T d=some ts) (r:RZ E d x) (s:aQ E H):∃vs,RK K T x H vs∧eY E ts vs:=by
 cases T with
 | one=>cases h; exact ⟨[x],rfl,x,[],rfl,r,rfl⟩
 | many n=>
  cases d <;> first | cases h | skip
  rename_i ds
  have h:(if ds.length=n then some ds else none)=some ts:=h
  split at h
  ·rename_i hl
   cases h
   obtain ⟨a,vs,rfl,ha,r⟩:=r
   exact ⟨vs,⟨a,rfl,ig.of (s _ _ ha),(bI r).trans hl⟩,r⟩
  ·cases h
theorem Hu {K:PySem.W.Frag} {fi:FI} {T:oU} {ft:FT} {fe:FE} {js:List Nat}:∀σ H Q,tE K (fLC fi T ft fe js) σ H Q→Zi K (tI K true fi) T (fun _=>mO K ft) (fun _=>tE K fe) js σ H Q:=by
 rintro σ H Q ⟨Z,Θ,env,C,res,env',C',S,hf,q⟩
 unfold fLC at hf
 split at hf
 case h_2=>cases hf
 rename_i its e1 C1 h1
 split at hf
 case h_2=>cases hf
 rename_i ys C2 h2
 split at hf
 case isFalse=>cases hf
 rename_i hl
 cases hf
 refine ⟨Z,Θ,env,C,its,e1,C1,S,h1,fun J H1 k1 f1 S1 it D hD b=>?_⟩
 have O1:=S1.fz (nq js e1)
 have it':wC (aK Z Θ e1 σ) Θ H1 J its:=it
 let PB:=aK (lA D Z (nY js e1) σ) Θ [] []
 have BK:∀a,a∈PB ↔ a=D∨a∈aK Z Θ (nY js e1) σ:=fun a=>eV (js:=js) rfl
 have ZF:D∈PB:=(BK D).mpr (.inl rfl)
 refine ⟨fun i m H2=>m=its.length - i∧i≤its.length∧∃acc gj C2 ys',bK Θ H1 H2∧dX Θ C2 H2∧H2 D=some (.lst gj)∧eY (er PB H2) acc gj∧fV T ft fe (frB js e1) (its.drop i) C2=some (ys',C')∧acc++ys'=ys,
  ⟨its.length,rfl,Nat.zero_le _,[],[],C1,ys,bK.upd hD,⟨S1.cell.len,fun n b ns e2 e3=>?_⟩,aL,rfl,h2,rfl⟩,?_⟩
 ·have:=S1.cell.at_ n b ns e2 e3
  rw [aJ (bz this hD)]
  exact this
 rintro i m H2 ⟨rfl,hi,acc,gj,Ci,ys',ki,ci,hDi,ri,hc,ea⟩
 have Xd:aQ (er (aK Z Θ e1 σ) H1) (er PB H2):=fB ki S1.G7 fun b m=>by
  rcases (BK b).mp m with rfl | m
  ·exact .inr hD
  ·exact .inl ((nq js e1).sub b m)
 have Xe:Sm K (lA D Z (nY js e1) σ) Θ (ji []++frB js e1) Ci (([]:List V).map some++frees js σ) H2:=O1.blk hD ki ⟨_,hDi,fun _ z=>nomatch z⟩ ci (show eY _ [] [] from rfl)
 have MP:∀a∈PB,H2 a≠none:=fun a m=>by
  have:=Xe.yW a ((eV (js:=js) (lz (env:=ji []++frB js e1) pH)).mpr ((BK a).mp m))
  exact this
 obtain ⟨U3,U4⟩:=it' i H2 PB Xd (yX ki) MP
 cases hd:its[i]? with
 | none=>
  have hi2:i=its.length:=by
   have:=List.getElem?_eq_none_iff.mp hd
   omega
  rw [hi2,List.drop_length] at hc
  cases hc
  rw [List.append_nil] at ea
  subst ea
  refine .inl ⟨U4 hi2,q _ H2 (k1.trans ki) ?_ ?_⟩
  ·split
   ·exact f1
   ·exact f1.trans (nq js e1)
  ·refine ⟨D,rfl,k1.none hD,?_⟩
   split
   ·rename_i hn
    have SD:=S1.uT hD ki ⟨_,hDi,fun _ z=>nomatch z⟩ ci
    exact ⟨SD,gj,hDi,ri.wA (fun a vs e=>uL SD (bw e)) hn⟩
   ·have SD:=O1.uT hD ki ⟨_,hDi,fun _ z=>nomatch z⟩ ci
    refine ⟨SD,gj,hDi,?_⟩
    have:er PB H2=er (aK (D::Z) Θ (nY js e1) σ) H2:=gW fun a=>by
     rw [BK]
     show _ ↔ a∈D::aK Z Θ (nY js e1) σ
     rw [List.mem_cons]
    rw [←this]
    exact ri
 | some d=>
  have hlt:i < its.length:=(List.getElem?_eq_some_iff.mp hd).1
  have ed:its.drop i=d::its.drop (i + 1):=by
   rw [List.drop_eq_getElem_cons hlt]
   obtain ⟨_,e⟩:=List.getElem?_eq_some_iff.mp hd
   rw [e]
  rw [ed] at hc
  unfold fV at hc
  obtain ⟨go,yl⟩:=U3 d hd
  refine .inr ⟨go,fun x H3 y=>?_⟩
  obtain ⟨s3,r3⟩:=yl x H3 y
  split at hc
  case h_2=>cases hc
  rename_i ts ht
  obtain ⟨vs,tv,rvs⟩:=MN (K:=K) ht r3 (sE _ _)
  refine ⟨vs,tv,?_⟩
  have k3:bK Θ H1 H3:=ki.trans (bK.of s3)
  have JH:H3 D=some (.lst gj):=s3 _ _ hDi
  have c3:dX Θ Ci H3:=⟨ci.len,fun n b ns e2 e3=>s3 _ _ (ci.at_ n b ns e2 e3)⟩
  have r3':eY (er PB H3) acc gj:=ri.same (qt s3)
  have SB:Sm K (lA D Z (nY js e1) σ) Θ (ji ts++frB js e1) Ci (vs.map some++frees js σ) H3:=O1.blk hD k3 ⟨_,JH,fun _ z=>nomatch z⟩ c3 rvs
  have ePB:∀Hx,er (aK (lA D Z (nY js e1) σ) Θ (ji ts++frB js e1) (vs.map some++frees js σ)) Hx=er PB Hx:=fun Hx=>gW fun a=>by rw [eV (js:=js) (lz pH),BK]
  have wF:D∉Θ:=fun m=>(S1.cell.dom D m).ne hD
  have stay:∀{Hx Hy:Hp},bK Θ Hx Hy→Hx D=some (.lst gj)→eY (er PB Hx) acc gj→Hy D=some (.lst gj)∧eY (er PB Hy) acc gj:=fun {Hx Hy} kk h1 h2=>
   ⟨kk.keep _ _ h1 wF,h2.same (fB kk (fun a m=>(BK a).mpr (.inr (bF.mpr (.inr (.inl m))))) fun a m=>.inl m)⟩
  split at hc
  ·rename_i Ct MT
   refine ⟨_,Θ,_,Ci,false,Ct,SB,MT,fun H4 k4 S4=>vZ ⟨its.length - (i + 1),by omega,rfl,hlt,acc,gj,Ct,ys',k3.trans k4,S4.cell,(stay k4 JH r3').1,(stay k4 JH r3').2,hc,ea⟩⟩
  ·rename_i Ct MT
   split at hc
   case h_2=>cases hc
   rename_i xr eB CB hfe
   split at hc
   case h_2=>cases hc
   rename_i yd Xf
   split at hc
   case h_2=>cases hc
   rename_i zs Cz hzs
   cases hc
   refine ⟨_,Θ,_,Ci,true,Ct,SB,MT,fun H4 k4 S4=>wg ⟨_,Θ,_,Ct,xr,eB,CB,S4,hfe,fun y H5 k5 f5 R5=>?_⟩⟩
   obtain ⟨S5,r5⟩:=R5.lW Xf
   obtain ⟨ZG,r4⟩:=stay k4 JH r3'
   obtain ⟨Xg,Yl⟩:=stay k5 ZG r4
   have ZJ:aV eB (vs.map some++frees js σ)=[]:=by
    have:=(Fz.own (σ:=vs.map some++frees js σ) f5)
    rw [lz pH] at this
    exact List.sublist_nil.mp this
   have e5:er (aK (lA D Z (nY js e1) σ) Θ eB (vs.map some++frees js σ)) H5=er PB H5:=gW fun a=>by rw [eV (js:=js) ZJ,BK]
   rw [e5] at r5
   have la:=bI Yl
   have lt:acc.length < LIM∧True:=by
    have:=congrArg List.length ea
    rw [List.length_append,List.length_cons] at this
    exact ⟨by omega,trivial⟩
   refine ⟨gj,Xg,by rw [la,sizeLine_eq]; have:=lt.1; unfold LIM at this; omega,its.length - (i + 1),by omega,rfl,hlt,acc++[yd],gj++[y],CB,zs,?_,?_,aL,?_,hzs,by rw [←ea,List.append_assoc]; rfl⟩
   ·have kk:=(k3.trans k4).trans k5
    refine ⟨fun a o ha na=>?_,fun a ha=>?_⟩
    ·rw [aJ (bz ha hD)]
     exact kk.keep _ _ ha na
    ·by_cases z:a=D
     ·subst z; rw [aL]; exact Option.some_ne_none _
     ·rw [aJ z]; exact kk.dom a ha
   ·refine ⟨S5.cell.len,fun n b ns e2 e3=>?_⟩
    rw [aJ]
    ·exact S5.cell.at_ n b ns e2 e3
    ·intro z
     subst z
     exact wF (List.mem_of_getElem? e2)
   ·rw [Fj ZF]
    exact nW Yl ⟨y,[],rfl,r5,rfl⟩
  ·cases hc
section
variable {X:Cx} {NT NF:List Str} {js:List Nat} {elt tg iter:Expr} {ifs:List Expr} {T:oU} {fi:FI} {ft:FT} {fe:FE} {scope:Scope} {pos:Pos}
theorem sH (B:jT X NT NF js scope) (tk:qg tg NT T) (hc:X.calm=true) (hi:PI X tg iter (tI X.K true fi))
  (hin:∀b,Dr (X.bk (NT++NF) scope b) ifs (mO X.K ft)∧PE (X.bk (NT++NF) scope b) elt (tE X.K fe))
  (hs:∀x,foldedSetIterable iter X.env x=pure x:=by intro _; rfl):PE X (.ListComp elt [⟨tg,iter,ifs,0⟩] scope pos) (tE X.K (fLC fi T ft fe js)):=(WK B tk hc hi hin hs).weak Hu
theorem M3 {i:Nat} {y:Str} {pos' spos:Pos} (B:jT X NT NF js scope) (tk:qg tg NT T) (hc:X.calm=true) (hi:PI X tg iter (tI X.K true fi))
  (hin:∀b,Dr (X.bk (NT++NF) scope b) ifs (mO X.K ft)∧PE (X.bk (NT++NF) scope b) elt (tE X.K fe))
  (hsw:swapsWith (.ListComp elt [⟨tg,iter,ifs,0⟩] scope pos) (some (.Name y pos')) spos.line X.env=pure true) (hN:X.N.Nodup) (hI:X.N[i]?=some y) (hy:X.env.scope.names.lookup y=some .local)
  (hs:∀x,foldedSetIterable iter X.env x=pure x:=by intro _; rfl):PS X (.Assign [.Name y pos'] (.ListComp elt [⟨tg,iter,ifs,0⟩] scope pos) spos) (tS X.K (fSet i (fLC fi T ft fe js))):=(Le B tk hc hi hin hsw hN hI hy hs).weak (uU Hu)
end
end L2
namespace L2
open PySem PySem.Spec PyProof.Rows PySem.W
noncomputable def xQ (n:Nat):Vl→Bool
 | .ce m=>decide (m < n)
 | _=>true
noncomputable def fN (k n:Nat) (body:FS):FN:=fun xs C=>if xs.length=k then match body (xs.map some++List.replicate (n - xs.length) none) C with
  | some (.rt r,_,C')=>if xQ C.length r then some (r,C'.take C.length) else none
  | some (.nx,_,C')=>some (.im .none,C'.take C.length)
  | _=>none
 else none
section
variable {K:PySem.W.Frag} {Z Θ:List Addr} {C:Ce} {H:Hp} {xs:List Vl} {vs:List V}
theorem uW {E:Hp} (a:gU K E Θ xs vs):vs.length=xs.length:=by
 induction a with
 | nil=>rfl
 | cons _ _ ih=>rw [List.length_cons,List.length_cons,ih]
theorem QD {E:Hp} (a:gU K E Θ xs vs):∀{i:Nat} {x:Vl},xs[i]?=some x→∃v,vs[i]?=some v∧qC K E Θ x v:=by
 induction a with
 | nil=>intro i x e; simp at e
 | cons h _ ih=>
  intro i x e
  cases i with
  | zero=>simp at e; subst e; exact ⟨_,rfl,h⟩
  | succ i=>
   obtain ⟨v,e2,h2⟩:=ih (i:=i) (by simpa using e)
   exact ⟨v,by simpa using e2,h2⟩
theorem Sm.start {n:Nat} (S:Sm K Z Θ [] C [] H) (a:gU K (er (aK Z Θ [] []) H) Θ xs vs):Sm K Z Θ (xs.map some++List.replicate n Option.none) C (vs.map some++List.replicate n Option.none) H∧aV (xs.map some++List.replicate n Option.none) (vs.map some++List.replicate n Option.none)=[]:=by
 have lv:=uW a
 have at':∀{i:Nat} {x:Vl},(xs.map some++List.replicate n Option.none)[i]?=some (some x)→∃v,vs[i]?=some v∧qC K (er (aK Z Θ [] []) H) Θ x v∧i < vs.length:=fun {i x} e=>by
  by_cases hi:i < xs.length
  ·rw [List.getElem?_append_left (by rw [List.length_map]; exact hi),List.getElem?_map] at e
   cases hx:xs[i]? with
   | none=>rw [hx] at e; cases e
   | some y=>
    rw [hx] at e
    cases e
    obtain ⟨v,e1,h⟩:=QD a hx
    exact ⟨v,e1,h,by rw [lv]; exact hi⟩
  ·rw [List.getElem?_append_right (by rw [List.length_map]; omega)] at e
   have:=List.mem_of_getElem? e
   exact nomatch (List.eq_of_mem_replicate this)
 have no:aV (xs.map some++List.replicate n Option.none) (vs.map some++List.replicate n Option.none)=[]:=lz fun i d e=>by
  obtain ⟨v,_,h,_⟩:=at' e
  exact h
 refine ⟨⟨by simp [lv],?_,S.dom,fun i x e=>?_,S.cell⟩,no⟩
 ·show (Z++(Θ++aV _ _)).Nodup
  rw [no]
  exact S.nd
 ·obtain ⟨v,e1,h,hl⟩:=at' e
  refine ⟨v,by rw [List.getElem?_append_left (by rw [List.length_map]; exact hl),List.getElem?_map,e1]; rfl,?_⟩
  have ee:er (aK Z Θ (xs.map some++List.replicate n Option.none) (vs.map some++List.replicate n Option.none)) H=er (aK Z Θ [] []) H:=by
   show er (Z++(Θ++aV _ _)) H=_
   rw [no]
   rfl
  rw [ee]
  cases x with
  | im d=>exact h
  | ow d=>exact h.elim
  | ce m=>exact h
  | sc ns=>exact h
theorem Sm.cut {Δ:List Addr} (S:Sm K Z (Θ++Δ) [] C [] H):Sm K Z Θ [] (C.take Θ.length) [] H:=by
 have jh:=S.jh
 have cl:=S.cell.len
 rw [List.length_append] at cl
 refine ⟨rfl,Ux jh.1 (List.nodup_append.mp jh.2.1).1 List.nodup_nil (fun b m m'=>jh.2.2.2 b m (List.mem_append_left _ m')) (fun _ m=>nomatch m),S.dom,fun i x e=>by simp at e,⟨by rw [List.length_take]; omega,fun n a ns e1 e2=>?_⟩⟩
 have hn:n < Θ.length:=(List.getElem?_eq_some_iff.mp e1).1
 rw [List.getElem?_take,if_pos hn] at e2
 exact S.cell.at_ n a ns (by rw [List.getElem?_append_left hn]; exact e1) e2
theorem Ho.cut {Θ':List Addr} {H':Hp} {C':Ce} {O:List Addr} {r:Vl} {v:V} (t:xP Θ Θ' H) (ok:xQ Θ.length r=true) (no:O=[]) (h:Ho K Z Θ' C' O H H' r v):Res K Z Θ [] (C'.take Θ.length) [] H H' r v:=by
 obtain ⟨Δ,rfl,hn⟩:=t.ex
 have sm:∀{Y:List Addr},aQ (er (aK Y (Θ++Δ) [] []) H') (er (aK Y Θ [] []) H'):=fun {Y}=>jB fun a m=>by
  rcases bF.mp m with m | m | m
  ·exact bF.mpr (.inl m)
  ·exact bF.mpr (.inr (.inl (List.mem_append_left _ m)))
  ·nomatch m
 cases r with
 | im d=>exact ⟨h.1.cut,h.2.same sm⟩
 | ow d=>
  obtain ⟨a,e,m,S,r⟩:=h
  refine ⟨a,e,?_,S.cut,r.same sm fun _ h=>h⟩
  rcases m with m | m
  ·rw [no] at m; nomatch m
  ·exact m
 | ce n=>
  obtain ⟨S,a,e,e2⟩:=h
  refine ⟨S.cut,a,e,?_⟩
  rw [List.getElem?_append_left (of_decide_eq_true ok)] at e2
  exact e2
 | sc ns=>
  obtain ⟨S,a,e,q⟩:=h
  exact ⟨S.cut,a,e,sm.seq q⟩
end
section
variable {P:Program} {w:World} {K:PySem.W.Frag} {mg:Str→Option Value} {base:Heap}
theorem fW {x qual:Str} {st:Stmt} {f:Addr} {fd:FuncData} {N ps:List Str} {k:Nat} {body:FS} {k1 k2:Nat} (F:su K x qual st f fd) (S:bV N ps (aD st))
  (hb:∀(cdv:Value) (A:Around) (outer:List Env) (s:Shared) (H:Hp) (E:XK),gm k (A.deeper (envOfC qual (aD st) s.heap.objs.size f cdv))→sY (DW qb P w K mg base N qual (aD st) f cdv A outer s H E).O6 (bH st) (tS K body))
  (e1:k1=ps.length:=by rfl) (e2:k2=N.length:=by rfl):dG P w K mg base qb (k + 1) f fd ps (spT K (fN k1 k2 body)):=by
 subst e1 e2
 refine F.ok S (fun vs H Q E h=>?_) (fun cdv A outer s H vs Q E hr h=>⟨_,hb cdv A outer s H E hr,?_⟩)
 ·obtain ⟨Z,Θ,C,xs,r,C',S0,a,hf,_⟩:=h
  unfold fN at hf
  split at hf
  ·rename_i hl; rw [uW a,hl]
  ·cases hf
 ·obtain ⟨Z,Θ,C,xs,r,C',S0,a,hf,q⟩:=h
  unfold fN at hf
  split at hf
  case isFalse=>cases hf
  rename_i hl
  have lv:=uW a
  obtain ⟨S1,no⟩:=S0.start (n:=N.length - vs.length) a
  rw [lv] at S1 no
  have hs:start N vs=vs.map some++List.replicate (N.length - xs.length) none:=by unfold start; rw [lv]
  rw [hs]
  have cl:=S0.cell.len
  split at hf
  ·rename_i r0 e' C1 hb'
   split at hf
   ·rename_i hok
    cases hf
    refine ⟨Z,Θ,_,C,.rt r,e',C1,S1,hb',fun Θ' v H' R=>?_⟩
    have kp:=R.kp
    rw [no,List.append_nil] at kp
    rw [cl] at q hok
    exact q v H' kp (R.ok.cut R.th hok no)
   ·cases hf
  ·rename_i e' C1 hb'
   cases hf
   refine ⟨Z,Θ,_,C,.nx,e',C1,S1,hb',fun Θ' σ' H' R=>?_⟩
   have kp:=R.kp
   rw [no,List.append_nil] at kp
   obtain ⟨Δ,e,hn⟩:=R.th.ex
   have S2:=R.sm.none
   rw [e] at S2
   rw [cl] at q
   exact q .non H' kp ⟨S2.cut,rfl⟩
  ·cases hf
theorem U6 {f:FN} {C':Ce} {H:Hp} {a:Addr} {ns:List Int} {E:XK} (hS:cZ K H a (ns.map V.int)) (h:f [.sc ns] []=some (.im (.bool true),C')):spT K f [.ref a] H (fun v _=>v=.bl true) E:=by
 refine ⟨[],[],[],[.sc ns],_,C',⟨rfl,List.nodup_nil,(fun _ m=>nomatch m),fun i x e=>by simp at e,⟨rfl,fun n b ms e _=>by simp at e⟩⟩,.cons ⟨a,rfl,?_⟩ .nil,h,fun v H' _ R=>R.2⟩
 show cZ K (er [] H) a _
 rw [uF]
 exact hS
end
noncomputable def sI (i:Nat):FE:=fun env C=>match env[i]? with
 | some (some (.sc ns))=>some (.im (.int ns.length),env,C)
 | _=>none
noncomputable def M4 (i:Nat) (f:FB):FE:=fun env C=>match env[i]? with
 | some (some (.sc ns))=>match f env C with
  | some (.int k,_,C1)=>match iD ns k with
   | some z=>some (.im (.int z),env,C1)
   | none=>none
  | _=>none
 | _=>none
section
variable {X:Cx} {o k:Expr} {i:Nat} {p pos:Pos}
theorem Hv (ho:PE X o (uc i)) (hg:Gl X "len") (hm:X.mg "len"=none) (hv:bootBuiltins "len"=some (.builtin "len"))
  (he:starEach [o] X.env=(false,eval o X.env)::starEach [] X.env:=by rfl) (hpl:(backTo pos (starEach [] X.env)).any (·.1)=false:=by rfl):PE X (.Call (.Name "len" p) [o] [] pos) (tE X.K (sI i)):=
 (pW pZ hg hm hv (dz ho iM he) (by decide) (by decide) he hpl).weak fun σ H Q aP=>by
  obtain ⟨Z,Θ,env,C,r,env',C',S,hf,q⟩:=aP
  unfold sI at hf
  split at hf
  ·rename_i ns h0
   cases hf
   obtain ⟨v,ev,a,rfl,sq⟩:=S.slot i _ h0
   have:=q (.int ns.length) H (bK.refl _ _) (Fz.refl _) ⟨S,rfl⟩
   exact ⟨_,ev,a,_,rfl,.inl ((sE _ _).seq sq),by rw [List.length_map]; exact this⟩
  ·cases hf
theorem U7 {f:FB} (ho:PE X o (uc i)) (hk:PE X k (kY X.K f)) (hs:tL k):PE X (.Subscript o k pos) (tE X.K (M4 i f)):=(KY yK ho hk hs).weak fun σ H Q aP=>by
 obtain ⟨Z,Θ,env,C,r,env',C',S,hf,q⟩:=aP
 unfold M4 at hf
 split at hf
 case h_2=>cases hf
 rename_i ns h0
 split at hf
 case h_2=>cases hf
 rename_i z e1 C1 h1
 split at hf
 case h_2=>cases hf
 rename_i y hy
 cases hf
 obtain ⟨v,ev,a,rfl,sq⟩:=S.slot i _ h0
 refine ⟨_,ev,Z,Θ,env,C,_,e1,C',S,h1,fun w H1 k1 f1 S1 b1=>?_⟩
 have S2:=S.go k1 S1.cell
 obtain ⟨v2,ev2,a2,ea2,sq2⟩:=S2.slot i _ h0
 rw [ev] at ev2
 cases ev2
 cases ea2
 refine ⟨a,_,z,.int y,rfl,b1,(sE _ _).seq sq2,?_,q _ H1 k1 (Fz.refl _) ⟨S2,rfl⟩⟩
 unfold iD at hy ⊢
 rw [List.length_map]
 cases hj:Ea ns.length z with
 | none=>rw [hj] at hy; cases hy
 | some j=>
  rw [hj] at hy
  show (ns.map V.int)[j]?=_
  rw [List.getElem?_map,show ns[j]?=some y from hy]
  rfl
end
end L2
namespace L2
open PySem PySem.Spec PyProof.Rows PySem.W
section
variable {K:PySem.W.Frag} {X:Cx}
theorem qF {Z Θ:List Addr} {env:En} {σ:St} {H:Hp} {d:PyData} {vs:List V} (h:G8 Z Θ env σ H [d] vs):∃v,vs=[v]∧dY Z Θ env σ H d v:=by
 cases h with
 | cons a b=>cases b; exact ⟨_,rfl,a⟩
theorem Xh {Z Θ:List Addr} {env:En} {σ:St} {H:Hp} {d e:PyData} {vs:List V} (h:G8 Z Θ env σ H [d,e] vs):∃v w,vs=[v,w]∧dY Z Θ env σ H d v∧dY Z Θ env σ H e w:=by
 cases h with
 | cons a b=>
  cases b with
  | cons b c=>cases c; exact ⟨_,_,rfl,a,b⟩
noncomputable def M5:PyData→Option Nat
 | .list ds=>some ds.length
 | .tuple ds=>some ds.length
 | .str z=>if z.length≤LIM then some z.length else none
 | .dict kvs=>if (cC cN kvs).isSome then some kvs.length else none
 | _=>none
noncomputable def nu:List PyData→Option Vl
 | [d]=>(M5 d).map fun n=>.im (.int n)
 | _=>none
noncomputable def R9 (K:PySem.W.Frag):List V→Hp→VK→Prop:=fun xs H Q=>((∃p ys,xs=[.ref p]∧(cZ K H p ys∨ig K H p ys)∧Q (.int ys.length) H)∨∃z,xs=[.str z]∧z.length≤sizeLine∧Q (.int z.length) H)∨∃a kvs,xs=[V.ref a]∧H a=some (.dK kvs)∧Q (.int kvs.length) H
theorem nZ:dZ X (.builtin "len") (R9 X.K):=(pZ.or yN).or Jh
theorem zA:Mu K (R9 K) nu:=by
 intro Z Θ env C σ H xs ds res S b e Q q
 unfold nu at e
 split at e
 case h_2=>cases e
 rename_i d
 obtain ⟨v,rfl,bb⟩:=qF b
 cases hn:M5 d with
 | none=>rw [hn] at e; cases e
 | some n=>
  rw [hn] at e
  cases e
  have fin:=q (.int n) H (bK.refl _ _) (bu S rfl rfl)
  cases d <;> first | cases hn | skip
  ·rename_i z
   simp only [M5] at hn
   split at hn
   ·rename_i hl
    cases hn
    cases bb.str
    exact .inl (.inr ⟨z,rfl,dH hl,fin⟩)
   ·cases hn
  ·obtain ⟨a,vs,rfl,ha,r⟩:=bb.lst
   exact .inl (.inl ⟨a,vs,rfl,.inl (cZ.of ha),by rw [bI r]; exact fin⟩)
  ·obtain ⟨a,vs,rfl,ha,r⟩:=bb.tup
   exact .inl (.inl ⟨a,vs,rfl,.inr (ig.of ha),by rw [bI r]; exact fin⟩)
  ·rename_i kvs
   simp only [M5] at hn
   split at hn
   ·rename_i hs
    cases hn
    obtain ⟨a,vs,rfl,da,r⟩:=bb.dct
    rcases da with ⟨ks,h1,ha⟩ | ⟨ks,⟨ne,h2⟩,ha⟩
    ·refine .inr ⟨a,_,rfl,ha,?_⟩
     rw [List.length_zip,jW h1,yV r,Nat.min_self]
     exact fin
    ·obtain ⟨ks',h1⟩:=Option.isSome_iff_exists.mp hs
     exact absurd (jX h1 h2) ne
   ·cases hn
noncomputable def BL:List PyData→Option Vl
 | [.int i]=>some (.im (.int (if i < 0 then -i else i)))
 | _=>none
theorem M6:Mu K (fun xs H Q=>∃i,xs=[.int i]∧Q (.int (if i < 0 then -i else i)) H) BL:=by
 intro Z Θ env C σ H xs ds res S b e Q q
 unfold BL at e
 split at e
 case h_2=>cases e
 cases e
 obtain ⟨v,rfl,bb⟩:=qF b
 cases bb.int
 exact ⟨_,rfl,q _ H (bK.refl _ _) (bu S rfl rfl)⟩
noncomputable def uX:List PyData→Option Vl
 | [.int i]=>some (.im (.int i))
 | [.bool k]=>some (.im (.int (if k then 1 else 0)))
 | _=>none
theorem M7:Mu K (fun xs H Q=>(∃i,xs=[.int i]∧Q (.int i) H)∨∃k,xs=[.bl k]∧Q (.int (if k then 1 else 0)) H) uX:=by
 intro Z Θ env C σ H xs ds res S b e Q q
 unfold uX at e
 split at e
 case h_3=>cases e
 ·cases e
  obtain ⟨v,rfl,bb⟩:=qF b
  cases bb.int
  exact .inl ⟨_,rfl,q _ H (bK.refl _ _) (bu S rfl rfl)⟩
 ·cases e
  obtain ⟨v,rfl,bb⟩:=qF b
  cases (show v=.bl _ from bb)
  exact .inr ⟨_,rfl,q _ H (bK.refl _ _) (bu S rfl rfl)⟩
noncomputable def zB:List PyData→Option Vl
 | [.int i,.int j]=>some (.im (.int (if j < i then j else i)))
 | _=>none
theorem QF:Mu K (fun xs H Q=>∃i j,xs=[.int i,.int j]∧Q (.int (if j < i then j else i)) H) zB:=by
 intro Z Θ env C σ H xs ds res S b e Q q
 unfold zB at e
 split at e
 case h_2=>cases e
 cases e
 obtain ⟨v,w,rfl,b1,b2⟩:=Xh b
 cases b1.int; cases b2.int
 exact ⟨_,_,rfl,q _ H (bK.refl _ _) (bu S rfl rfl)⟩
noncomputable def boolsOf:List PyData→Option (List Bool)
 | []=>some []
 | .bool b::r=>match boolsOf r with
  | some t=>some (b::t)
  | none=>none
 | _=>none
theorem xR {E:Hp}:∀{ds:List PyData} {ns:List Bool} {vs:List V},boolsOf ds=some ns→eY E ds vs→vs=ns.map V.bl
 | [],ns,vs,h,r=>by cases h; exact r
 | .bool i::ds,ns,vs,h,r=>by
  unfold boolsOf at h
  split at h
  ·rename_i t ht
   cases h
   obtain ⟨u,w,rfl,q,s⟩:=r
   rw [xR ht s]
   have:u=.bl i:=q
   rw [this]
   rfl
  ·cases h
 | .none::_,_,_,h,_=>by cases h
 | .int _::_,_,_,h,_=>by cases h
 | .str _::_,_,_,h,_=>by cases h
 | .list _::_,_,_,h,_=>by cases h
 | .tuple _::_,_,_,h,_=>by cases h
 | .dict _::_,_,_,h,_=>by cases h
noncomputable def BP:List PyData→Option Vl
 | [.list ds]=>(boolsOf ds).map fun bs=>.im (.bool (bs.all id))
 | _=>none
theorem U8:Mu K (fun xs H Q=>∃(p:Addr) (bs:List Bool),xs=[.ref p]∧cZ K H p (bs.map V.bl)∧Q (.bl (bs.all id)) H) BP:=by
 intro Z Θ env C σ H xs ds res S b e Q q
 unfold BP at e
 split at e
 case h_2=>cases e
 rename_i ds
 cases hb:boolsOf ds with
 | none=>rw [hb] at e; cases e
 | some bs=>
  rw [hb] at e
  cases e
  obtain ⟨v,rfl,bb⟩:=qF b
  obtain ⟨a,vs,rfl,ha,r⟩:=bb.lst
  rw [xR hb r] at ha
  exact ⟨a,bs,rfl,cZ.of ha,q _ H (bK.refl _ _) (bu S rfl rfl)⟩
noncomputable def M8:List PyData→Option Vl
 | [d]=>if Ez d&&d.showable&&decide (d.depth≤60)&&decide (d.shown.length≤LIM) then some (.im (.str d.shown)) else none
 | _=>none
noncomputable def qG:List PyData→Option Vl
 | [.list ds]=>some (.im (.tuple ds))
 | [.tuple ds]=>some (.im (.tuple ds))
 | _=>none
theorem BR:Mu K (fun xs H Q=>∃p ys,xs=[.ref p]∧((cZ K H p ys∧∀l,H l=none→Q (.ref l) (upd H l (.tup ys)))∨(ig K H p ys∧Q (.ref p) H))) qG:=by
 intro Z Θ env C σ H xs ds res S b e Q q
 unfold qG at e
 split at e
 case h_3=>cases e
 ·cases e
  obtain ⟨v,rfl,bb⟩:=qF b
  obtain ⟨a,vs,rfl,ha,r⟩:=bb.lst
  exact ⟨a,vs,rfl,.inl ⟨cZ.of ha,fun l hl=>q _ _ (bK.upd hl) (tU S r hl)⟩⟩
 ·cases e
  obtain ⟨v,rfl,bb⟩:=qF b
  obtain ⟨a,vs,rfl,ha,r⟩:=bb.tup
  exact ⟨a,vs,rfl,.inr ⟨ig.of ha,q _ H (bK.refl _ _) ⟨S,bb⟩⟩⟩
end
noncomputable def Fp (n:String):PyData→Option Bool
 | .none=>some false
 | .bool _=>some (n=="bool" || n=="int")
 | .int _=>some (n=="int")
 | .str _=>some (n=="str")
 | .list _=>some (n=="list")
 | .tuple _=>some (n=="tuple")
 | .dict _=>none
noncomputable def M9 (n:String):Bool:=n=="bool" || n=="int" || n=="str" || n=="list" || n=="tuple"
theorem Fq {K:PySem.W.Frag} {n:String} {d:PyData} {b:Bool} (hn:M9 n=true) (e:Fp n d=some b):PySem.W.kitOne K (WX d) (.type n)=some b:=by
 unfold M9 at hn
 simp only [Bool.or_eq_true,beq_iff_eq] at hn
 rcases hn with (((rfl | rfl) | rfl) | rfl) | rfl <;> cases d <;> cases e <;> rfl
theorem BV {n:String} {d:PyData} {b:Bool} (e:Fp n d=some b):∀kvs,d≠.dict kvs:=fun kvs z=>by subst z; cases e
theorem dY.ty {K:PySem.W.Frag} {Z Θ:List Addr} {env:En} {σ:St} {H:Hp} {d:PyData} {v:V} (h:dY Z Θ env σ H d v) (hd:∀kvs,d≠.dict kvs):mR K H v (WX d):=by
 cases d with
 | none=>exact RX.ty (d:=.none) h
 | bool b=>exact RX.ty (d:=.bool b) h
 | int i=>exact RX.ty (d:=.int i) h
 | str z=>exact RX.ty (d:=.str z) h
 | list ds=>
  obtain ⟨a,vs,rfl,ha,r⟩:=h.lst
  exact .lst ha
 | tuple ds=>
  obtain ⟨a,vs,rfl,ha,r⟩:=h.tup
  exact .tup ha
 | dict kvs=>exact absurd rfl (hd kvs)
end L2
namespace L2
open PySem PySem.Spec PyProof.Rows PySem.W
noncomputable def pI (n:String) (f:FB):FE:=fun env C=>match f env C with
 | some (d,_,C1)=>match Fp n d with
  | some b=>some (.im (.bool b),env,C1)
  | none=>none
 | none=>none
noncomputable def BW (m n:String) (f:FB):FE:=fun env C=>match f env C with
 | some (d,_,C1)=>match Fp m d,Fp n d with
  | some p,some q=>some (.im (.bool (p || q)),env,C1)
  | _,_=>none
 | none=>none
section
variable {X:Cx} {a t t':Expr} {p pos tp:Pos} {x1:Nat}
theorem iW {n:String} {f:FB} (hn:M9 n=true) (ha:PE X a (kY X.K f)) (ht:PE X t (tC (.ty n))) (hg:Gl X "isinstance") (hm:X.mg "isinstance"=none) (hv:bootBuiltins "isinstance"=some (.builtin "isinstance"))
  (he:starEach [a,t] X.env=(false,eval a X.env)::starEach [t] X.env:=by rfl) (he2:starEach [t] X.env=(false,eval t X.env)::starEach [] X.env:=by rfl) (hpl:(backTo pos (starEach [t] X.env)).any (·.1)=false:=by rfl):
  PE X (.Call (.Name "isinstance" p) [a,t] [] pos) (tE X.K (pI n f)):=
 (pW Ar hg hm hv (dz ha (dz ht iM he2) he) (by decide) (by decide) he hpl).weak fun σ H Q aP=>by
  obtain ⟨Z,Θ,env,C,r,env',C',S,hf,q⟩:=aP
  unfold pI at hf
  split at hf
  case h_2=>cases hf
  rename_i d e1 C1 h1
  split at hf
  case h_2=>cases hf
  rename_i b hb
  cases hf
  refine ⟨Z,Θ,env,C,d,e1,C',S,h1,fun v H1 k f S1 b1=>⟨v,n,WX d,b,rfl,b1.ty (BV hb),Fq hn hb,q _ H1 k (Fz.refl _) ⟨S.go k S1.cell,rfl⟩⟩⟩
theorem QG {m n:String} {f:FB} (hm':M9 m=true) (hn:M9 n=true) (ha:PE X a (kY X.K f)) (ht:PE X t (tC (.ty m))) (ht':PE X t' (tC (.ty n))) (hg:Gl X "isinstance") (hm:X.mg "isinstance"=none) (hv:bootBuiltins "isinstance"=some (.builtin "isinstance"))
  (he:starEach [a,.Tuple [t,t'] x1 tp] X.env=(false,eval a X.env)::starEach [.Tuple [t,t'] x1 tp] X.env:=by rfl) (he2:starEach [.Tuple [t,t'] x1 tp] X.env=(false,eval (.Tuple [t,t'] x1 tp) X.env)::starEach [] X.env:=by rfl)
  (h3:starEach [t,t'] X.env=(false,eval t X.env)::starEach [t'] X.env:=by rfl) (h4:starEach [t'] X.env=(false,eval t' X.env)::starEach [] X.env:=by rfl)
  (hpl:(backTo pos (starEach [.Tuple [t,t'] x1 tp] X.env)).any (·.1)=false:=by rfl):
  PE X (.Call (.Name "isinstance" p) [a,.Tuple [t,t'] x1 tp] [] pos) (tE X.K (BW m n f)):=
 (pW yQ hg hm hv (dz ha (dz (DQ (dz ht (dz ht' iM h4) h3)) iM he2) he) (by decide) (by decide) he hpl).weak fun σ H Q aP=>by
  obtain ⟨Z,Θ,env,C,r,env',C',S,hf,q⟩:=aP
  unfold BW at hf
  split at hf
  case h_2=>cases hf
  rename_i d e1 C1 h1
  split at hf
  case h_2=>cases hf
  rename_i b b' hb hb'
  cases hf
  refine ⟨Z,Θ,env,C,d,e1,C',S,h1,fun v H1 k f S1 b1=>⟨by show 2≤sizeLine; rw [sizeLine_eq]; decide,fun c hc=>?_⟩⟩
  have kc:bK Θ H1 (upd H1 c (.tup [.ty m,.ty n])):=bK.upd hc
  have s2:=S1.uJ (aQ.upd (o:=.tup [.ty m,.ty n]) hc)
  have b2:=b1.go S1 kc (Fz.refl _)
  refine ⟨v,c,m,n,WX d,b,b',rfl,aL,b2.ty (BV hb),Fq hm' hb,Fq hn hb',q _ _ (k.trans kc) (Fz.refl _) ⟨S.go (k.trans kc) s2.cell,rfl⟩⟩
end
noncomputable def ins {α:Type} (lt:α→α→Bool) (x:α):List α→List α
 | []=>[x]
 | y::r=>if lt y x then y::ins lt x r else x::y::r
noncomputable def sJ {α:Type} (lt:α→α→Bool):List α→List α
 | []=>[]
 | x::r=>ins lt x (sJ lt r)
section
variable {α:Type} {lt:α→α→Bool}
theorem uY (x:α):∀l:List α,(ins lt x l).Perm (x::l)
 | []=>List.Perm.refl _
 | y::r=>by
  unfold ins
  split
  ·exact ((uY x r).cons y).trans (List.Perm.swap x y r)
  ·exact List.Perm.refl _
theorem iY:∀l:List α,(sJ lt l).Perm l
 | []=>List.Perm.refl _
 | x::r=>(uY x _).trans ((iY r).cons x)
structure BX (lt:α→α→Bool) (P:α→Prop):Prop where
 WY:∀a b,P a→P b→lt a b=true→lt b a=false
 neg:∀a b c,P a→P b→P c→lt a c=true→lt a b=true∨lt b c=true
 tot:∀a b,P a→P b→lt a b=false→lt b a=false→a=b
theorem Nb {P:α→Prop} (O:BX lt P) {x:α} (hx:P x):∀{l:List α},(∀y∈l,P y)→l.Pairwise (fun a b=>lt b a=false)→(ins lt x l).Pairwise (fun a b=>lt b a=false)
 | [],_,_=>List.pairwise_cons.mpr ⟨fun _ m=>(nomatch m),List.Pairwise.nil⟩
 | y::r,hp,h=>by
  rw [List.pairwise_cons] at h
  have py:=hp y List.mem_cons_self
  unfold ins
  split
  ·rename_i hl
   rw [List.pairwise_cons]
   refine ⟨fun z m=>?_,Nb O hx (fun z m=>hp z (List.mem_cons_of_mem _ m)) h.2⟩
   rcases List.mem_cons.mp ((uY x r).mem_iff.mp m) with rfl | m
   ·exact O.WY _ _ py hx hl
   ·exact h.1 z m
  ·rename_i hl
   have hl:lt y x=false:=by simpa using hl
   rw [List.pairwise_cons,List.pairwise_cons]
   refine ⟨fun z m=>?_,h.1,h.2⟩
   rcases List.mem_cons.mp m with rfl | m
   ·exact hl
   ·have pz:=hp z (List.mem_cons_of_mem _ m)
    cases hz:lt z x with
    | false=>rfl
    | true=>
     rcases O.neg z y x pz py hx hz with h1 | h1
     ·rw [h.1 z m] at h1; cases h1
     ·rw [hl] at h1; cases h1
theorem BZ {P:α→Prop} (O:BX lt P):∀{l:List α},(∀y∈l,P y)→(sJ lt l).Pairwise (fun a b=>lt b a=false)
 | [],_=>List.Pairwise.nil
 | x::r,hp=>Nb O (hp x List.mem_cons_self) (fun y m=>hp y (List.mem_cons_of_mem _ ((iY r).mem_iff.mp m))) (BZ O fun y m=>hp y (List.mem_cons_of_mem _ m))
theorem Nf {P:α→Prop} (O:BX lt P):∀{l m:List α},(∀y∈l,P y)→l.Perm m→l.Pairwise (fun a b=>lt b a=false)→m.Pairwise (fun a b=>lt b a=false)→l=m
 | [],m,_,p,_,_=>(List.nil_perm.mp p).symm
 | x::r,[],_,p,_,_=>absurd p.length_eq (by simp)
 | x::r,y::t,hp,p,h1,h2=>by
  have pm:∀z∈y::t,P z:=fun z m=>hp z (p.mem_iff.mpr m)
  rw [List.pairwise_cons] at h1 h2
  have e:x=y:=by
   have m1:x∈y::t:=p.mem_iff.mp List.mem_cons_self
   have m2:y∈x::r:=p.mem_iff.mpr List.mem_cons_self
   rcases List.mem_cons.mp m1 with e | m1
   ·exact e
   ·rcases List.mem_cons.mp m2 with e | m2
    ·exact e.symm
    ·exact O.tot x y (hp x List.mem_cons_self) (pm y List.mem_cons_self) (h2.1 x m1) (h1.1 y m2)
  subst e
  rw [Nf O (fun z m=>hp z (List.mem_cons_of_mem _ m)) ((List.perm_cons x).mp p) h1.2 h2.2]
theorem QH {P:α→Prop} (O:BX lt P) {l m:List α} (hp:∀y∈l,P y) (p:m.Perm l) (h:m.Pairwise (fun a b=>lt b a=false)):m=sJ lt l:=
 Nf O (fun y hy=>hp y (p.mem_iff.mp hy)) (p.trans (iY l).symm) h (BZ O hp)
end
theorem Xi:BX strLt (fun _=>True):=by
 refine ⟨fun a b _ _ h=>?_,fun a b c _ _ _ h=>?_,fun a b _ _ h1 h2=>?_⟩
 ·exact Qg (a:=.inr a) (b:=.inr b) h
 ·exact Uh (a:=.inr a) (b:=.inr b) (c:=.inr c) rfl rfl h
 ·exact Sum.inr.inj (Ui (a:=.inr a) (b:=.inr b) rfl h1 h2)
noncomputable def strsOf:List PyData→Option (List Str)
 | []=>some []
 | .str i::r=>match strsOf r with
  | some t=>some (i::t)
  | none=>none
 | _=>none
theorem Ca {E:Hp}:∀{ds:List PyData} {ns:List Str} {vs:List V},strsOf ds=some ns→eY E ds vs→vs=ns.map V.str
 | [],ns,vs,h,r=>by cases h; exact r
 | .str i::ds,ns,vs,h,r=>by
  unfold strsOf at h
  split at h
  ·rename_i t ht
   cases h
   obtain ⟨u,w,rfl,q,s⟩:=r
   rw [Ca ht s]
   have:u=.str i:=q
   rw [this]
   rfl
  ·cases h
 | .none::_,_,_,h,_=>by cases h
 | .bool _::_,_,_,h,_=>by cases h
 | .int _::_,_,_,h,_=>by cases h
 | .list _::_,_,_,h,_=>by cases h
 | .tuple _::_,_,_,h,_=>by cases h
 | .dict _::_,_,_,h,_=>by cases h
noncomputable def QJ:PyData→Option (List Bool)
 | .tuple xs=>(keysOf xs).map fun ks=>ks.map eU
 | _=>none
noncomputable def xT:Key→PyData
 | .inl i=>.int i
 | .inr x=>.str x
noncomputable def xU:PyData→List Key
 | .tuple xs=>(keysOf xs).getD []
 | _=>[]
noncomputable def QK (ds:List PyData):List PyData:=(Lw (ds.map xU)).map fun k=>.tuple (k.map xT)
theorem Ng:∀{x:Str} {r:List Str},risingS x r=true→(x::r).Pairwise (fun a b=>strLt b a=false)
 | x,[],_=>List.pairwise_cons.mpr ⟨fun _ m=>(nomatch m),List.Pairwise.nil⟩
 | x,y::r,h=>by
  unfold risingS at h
  rw [Bool.and_eq_true,Bool.not_eq_true'] at h
  have ih:=Ng h.2
  have hxy:strLt y x=false:=by
   have:=h.1
   unfold strLt
   rw [lt_meets]
   exact this
  rw [List.pairwise_cons]
  refine ⟨fun z m=>?_,ih⟩
  rcases List.mem_cons.mp m with rfl | m
  ·exact hxy
  ·rw [List.pairwise_cons] at ih
   cases hz:strLt z x with
   | false=>rfl
   | true=>
    rcases Xi.neg z y x trivial trivial trivial hz with h1 | h1
    ·rw [ih.1 z m] at h1; cases h1
    ·rw [hxy] at h1; cases h1
theorem U9 {ns ns':List Str} (p:ns'.Perm ns) (h:sortedS ns'=true):ns'=sJ strLt ns:=QH Xi (fun _ _=>trivial) p (by
 cases ns' with
 | nil=>exact List.Pairwise.nil
 | cons x r=>exact Ng h)
theorem uZ:∀{xs:List PyData} {ks:List Key},keysOf xs=some ks→xs=ks.map xT
 | [],ks,h=>by cases h; rfl
 | x::xs,ks,h=>by
  unfold keysOf at h
  split at h
  ·rename_i k t h1 h2
   cases h
   rw [uZ h2]
   have:x=xT k:=by
    cases x <;> first | (cases h1; rfl) | cases h1
   rw [this]
   rfl
  ·cases h
theorem u0:∀ks:List Key,keysOf (ks.map xT)=some ks
 | []=>rfl
 | k::ks=>by
  show (match cN (xT k),keysOf (ks.map xT) with | some k,some t=>some (k::t) | _,_=>none)=_
  rw [u0 ks]
  cases k <;> rfl
theorem JK {ds:List PyData} (h:∀d∈ds,(QJ d).isSome=true):(QK ds).Perm ds:=by
 have:=(Js (ds.map xU)).map fun k=>PyData.tuple (k.map xT)
 refine this.trans (List.Perm.of_eq ?_)
 rw [List.map_map]
 refine (List.map_congr_left fun d hd=>?_).trans (List.map_id ds)
 have hs:=h d hd
 cases d with
 | tuple xs=>
  show PyData.tuple (((keysOf xs).getD []).map xT)=.tuple xs
  cases hk:keysOf xs with
  | none=>
   have hs:((keysOf xs).map fun ks=>ks.map eU).isSome=true:=hs
   rw [hk] at hs
   cases hs
  | some ks=>rw [uZ hk]; rfl
 | _=>cases hs
theorem Cd {E:Hp} {sh:List Bool}:∀{ds:List PyData} {vs:List V},(∀d∈ds,QJ d=some sh)→eY E ds vs→∃rows:List Row,vs=rows.map (fun r=>V.ref r.1)∧ds=rows.map (fun r=>.tuple (r.2.map xT))∧∀r∈rows,E r.1=some (.tup (r.2.map kV))∧r.2.map eU=sh
 | [],vs,_,r=>⟨[],r,rfl,fun _ m=>(nomatch m)⟩
 | d::ds,vs,h,r=>by
  obtain ⟨u,w,rfl,q,s⟩:=r
  obtain ⟨rows,e1,e2,e3⟩:=Cd (fun d m=>h d (List.mem_cons_of_mem _ m)) s
  have hd:=h d List.mem_cons_self
  cases d <;> first | cases hd | skip
  rename_i xs
  have hd:(keysOf xs).map (fun ks=>ks.map eU)=some sh:=hd
  cases hk:keysOf xs with
  | none=>rw [hk] at hd; cases hd
  | some ks=>
   rw [hk] at hd
   obtain ⟨a,vs',rfl,ha,rr⟩:=q
   rw [iG hk rr] at ha
   refine ⟨(a,ks)::rows,by rw [e1]; rfl,by rw [e2,uZ hk]; rfl,fun r m=>?_⟩
   rcases List.mem_cons.mp m with rfl | m
   ·exact ⟨ha,Option.some.inj hd⟩
   ·exact e3 r m
theorem u5 {E:Hp}:∀{rows:List Row},(∀r∈rows,E r.1=some (.tup (r.2.map kV)))→eY E (rows.map fun r=>.tuple (r.2.map xT)) (rows.map fun r=>V.ref r.1)
 | [],_=>rfl
 | r::rows,h=>by
  refine ⟨_,_,rfl,⟨r.1,r.2.map kV,rfl,h r List.mem_cons_self,?_⟩,u5 fun r m=>h r (List.mem_cons_of_mem _ m)⟩
  generalize r.2=ks
  induction ks with
  | nil=>rfl
  | cons k ks ih=>exact ⟨_,_,rfl,by cases k <;> rfl,ih⟩
theorem Cg:∀{ds:List PyData} {ns:List Str},strsOf ds=some ns→ds=ns.map .str
 | [],ns,h=>by cases h; rfl
 | .str i::ds,ns,h=>by
  unfold strsOf at h
  split at h
  ·rename_i t ht; cases h; rw [Cg ht]; rfl
  ·cases h
 | .none::_,_,h=>by cases h
 | .bool _::_,_,h=>by cases h
 | .int _::_,_,h=>by cases h
 | .list _::_,_,h=>by cases h
 | .tuple _::_,_,h=>by cases h
 | .dict _::_,_,h=>by cases h
noncomputable def qH (ds:List PyData):Option (List PyData):=if ds.length < 64 then match strsOf ds with
  | some ns=>some ((sJ strLt (dedup ns)).map .str)
  | none=>none
 else none
section
variable {X:Cx} {l:Expr} {f:FB} {p1 p2 pos1 pos2:Pos}
end
end L2
namespace L2
open PySem PySem.Spec PyProof.Rows PySem.W
noncomputable def zE:PyData→PyData→Option Vl
 | .str z,.list ds=>match strsOf ds with
  | some ys=>if (ys.map (·.length)).sum + ys.length * z.length≤LIM then some (.im (.str (Txt.join z ys))) else none
  | none=>none
 | _,_=>none
noncomputable def nA (f g:FB):FE:=aC zE f g
theorem zF {X:Cx} {o e:Expr} {f g:FB} {apos cpos:Pos} (ho:PE X o (kY X.K f)) (he:PE X e (kY X.K g))
  (hbase:attributeBase o "join" X.env (eval o X.env)=eval o X.env:=by rfl)
  (hfew:((backTo cpos (starEach [e] X.env)).all (fun x=>!x.1)&&(backToKw cpos (keywordEach [] X.env)).all (fun x=>x.1.isSome)
   &&decide (([e]:List Expr).length + ([]:List Keyword).length + (if ([]:List Keyword).isEmpty then 0 else 1) < 30))=true:=by rfl)
  (hline:(apos.endLine==cpos.line)=true:=by rfl) (hs:starEach [e] X.env=(false,eval e X.env)::starEach [] X.env:=by rfl) (hplain:(backTo cpos (starEach [] X.env)).any (·.1)=false:=by rfl):
  PE X (.Call (.Attribute o "join" apos) [e] [] cpos) (tE X.K (nA f g)):=
 (K3 PySem.F.plainAttrs_str PySem.F.slot_str_join PySem.F.type_str_join (RC.r Qc) ho (dz he iM hs) hbase hfew hline hs hplain).weak fun σ H Q aP=>by
  obtain ⟨Z,Θ,env,C,r,env',C',S,hf,q⟩:=aP
  unfold nA aC at hf
  split at hf
  case h_2=>cases hf
  rename_i x e1 C1 h1
  split at hf
  case h_2=>cases hf
  rename_i y e2 C2 h2
  split at hf
  case h_2=>cases hf
  rename_i r0 h3
  cases hf
  refine ⟨Z,Θ,env,C,x,e1,C1,S,h1,fun v H1 k1 f1 S1 b1=>?_⟩
  unfold zE at h3
  split at h3
  case h_2=>cases h3
  rename_i z ds
  split at h3
  case h_2=>cases h3
  rename_i ys hys
  split at h3
  case isFalse=>cases h3
  rename_i hl
  cases h3
  cases b1.str
  refine ⟨rfl,Z,Θ,e1,C1,_,e2,C',S1,h2,fun w H2 k2 f2 S2 b2=>?_⟩
  obtain ⟨a,vs,rfl,ha,rr⟩:=b2.lst
  rw [Ca hys rr] at ha
  have kk:=k1.trans k2
  refine ⟨z,a,ys,rfl,rfl,cZ.of ha,by unfold LIM at hl; omega,?_⟩
  exact q _ H2 kk ((f1.trans f2).rst _) (Res.rst S kk ⟨S2,rfl⟩)
noncomputable abbrev FO:=En→Ce→Option (Option Int×Ce)
noncomputable def Ym (K:PySem.W.Frag) (f:FO):TO:=fun σ H Q=>∃Z Θ env C o C',Sm K Z Θ env C σ H∧f env C=some (o,C')∧∀H',bK Θ H H'→Sm K Z Θ env C' σ H'→Q o H'
noncomputable def rK:FO:=fun _ C=>some (none,C)
noncomputable def n6 (f:FB):FO:=fun env C=>match f env C with
 | some (.int i,_,C1)=>some (some i,C1)
 | _=>none
noncomputable def tH {α:Type} (xs:List α) (lo hi:Option Int):List α:=(xs.drop (HT.dW xs.length 0 lo)).take (HT.dW xs.length xs.length hi - HT.dW xs.length 0 lo)
noncomputable def Cj (lo hi:Option Int):PyData→Option Vl
 | .str z=>if z.length≤LIM then some (.im (.str (Txt.slice z lo hi))) else none
 | .list ds=>some (.ow (.list (tH ds lo hi)))
 | .tuple ds=>some (.im (.tuple (tH ds lo hi)))
 | _=>none
noncomputable def oV (f:FB) (lo hi:FO):FE:=fun env C=>match f env C with
 | some (d,e1,C1)=>match lo e1 C1 with
  | some (l,C2)=>match hi e1 C2 with
   | some (h,C3)=>match Cj l h d with
    | some r=>some (r,rst r env e1,C3)
    | none=>none
   | none=>none
  | none=>none
 | none=>none
theorem zG {E:Hp} {ds:List PyData} {vs:List V} {lo hi:Option Int} (r:eY E ds vs):eY E (tH ds lo hi) (um vs lo hi):=by
 unfold tH um
 rw [bI r]
 exact Bd _ (Be _ r)
section
variable {X:Cx} {e:Expr} {lo hi:Option Expr} {pos p2:Pos}
theorem PO.weak {o:Option Expr} {t t':TO} (h:PO X o t) (w:∀σ H Q,t' σ H Q→t σ H Q):PO X o t':=fun pins s σ H Q I q=>h pins s σ H Q I (w σ H Q q)
theorem oW:PO X none (Ym X.K rK):=Pn.weak fun σ H Q aP=>by
 obtain ⟨Z,Θ,env,C,o,C',S,hf,q⟩:=aP
 cases hf
 exact q H (bK.refl _ _) S
theorem jt {f:FB} (h:PE X e (kY X.K f)):PO X (some e) (Ym X.K (n6 f)):=(Pq h).weak fun σ H Q aP=>by
 obtain ⟨Z,Θ,env,C,o,C',S,hf,q⟩:=aP
 unfold n6 at hf
 split at hf
 ·rename_i i e1 C1 h1
  cases hf
  exact ⟨Z,Θ,env,C,_,e1,C',S,h1,fun v H1 k f S1 b1=>⟨i,b1,q H1 k (S.go k S1.cell)⟩⟩
 ·cases hf
theorem lY {f:FB} {flo fhi:FO} (he:PE X e (kY X.K f)) (hl:PO X lo (Ym X.K flo)) (hh:PO X hi (Ym X.K fhi)):PE X (.Subscript e (.Slice lo hi none p2) pos) (tE X.K (oV f flo fhi)):=(KR ((Ub.or Px).or Qi) he hl hh).weak fun σ H Q aP=>by
 obtain ⟨Z,Θ,env,C,r,env',C',S,hf,q⟩:=aP
 unfold oV at hf
 split at hf
 case h_2=>cases hf
 rename_i d e1 C1 h1
 split at hf
 case h_2=>cases hf
 rename_i l C2 h2
 split at hf
 case h_2=>cases hf
 rename_i h C3 h3
 split at hf
 case h_2=>cases hf
 rename_i r0 h4
 cases hf
 refine ⟨Z,Θ,env,C,d,e1,C1,S,h1,fun v H1 k1 f1 S1 b1=>⟨Z,Θ,e1,C1,l,C2,S1,h2,fun H2 k2 S2=>⟨Z,Θ,e1,C2,h,C',S2,h3,fun H3 k3 S3=>?_⟩⟩⟩
 have kk:=(k1.trans k2).trans k3
 have b3:=b1.go S1 (k2.trans k3) (Fz.refl _)
 have fin:∀{w:V} {H4:Hp},bK Θ H3 H4→Res X.K Z Θ e1 C' σ H3 H4 r w→Q w H4:=fun {w H4} k4 R=>q w H4 (kk.trans k4) (f1.rst _) ((R.from kk).rst S (kk.trans k4))
 cases d <;> first | cases h4 | skip
 ·rename_i z
  simp only [Cj] at h4
  split at h4
  ·rename_i hz
   cases h4
   cases b3.str
   exact .inl (.inl ⟨z,rfl,dH hz,fin (bK.refl _ _) (bu S3 rfl rfl)⟩)
  ·cases h4
 ·obtain ⟨a,vs,rfl,ha,rr⟩:=b3.lst
  exact .inl (.inr ⟨a,vs,rfl,cZ.of ha,fun p hp=>fin (bK.upd hp) (tR S3 (zG rr) hp)⟩)
 ·rename_i ds
  have b3':=b3
  obtain ⟨a,vs,rfl,ha,rr⟩:=b3.tup
  refine .inr ⟨a,vs,rfl,ig.of ha,fun ec=>?_,fun p hp=>fin (bK.upd hp) (tU S3 (zG rr) hp)⟩
  have rc:=zG (lo:=l) (hi:=h) rr
  rw [ec] at rc
  refine fin (bK.refl _ _) ⟨S3,a,vs,rfl,uL S3 ha,rc⟩
end
noncomputable def sO (T:oU) (ft:FT) (fk fv:FE) (fs:En):List PyData→List (PyData×PyData)→Ce→Option (List (PyData×PyData)×Ce)
 | [],acc,C=>some (acc,C)
 | d::r,acc,C=>match U5 T d with
  | some ts=>match ft (ji ts++fs) C with
   | some (false,C1)=>sO T ft fk fv fs r acc C1
   | some (true,C1)=>match fk (ji ts++fs) C1 with
    | some (.im k,_,C2)=>match fv (ji ts++fs) C2 with
     | some (x,_,C3)=>match still x,cN k with
      | .im y,some kk=>if acc.length < LIM then sO T ft fk fv fs r (oN cN kk k y acc) C3 else none
      | _,_=>none
     | none=>none
    | _=>none
   | none=>none
  | none=>none
noncomputable def Ft:List (PyData×PyData)→Bool
 | []=>true
 | p::r=>wA p.2&&Ft r
noncomputable def Xj (fi:FI) (T:oU) (ft:FT) (fk fv:FE) (js:List Nat):FE:=fun env C=>match fi env C with
 | some (its,e1,C1)=>match sO T ft fk fv (frB js e1) its [] C1 with
  | some (kvs,C2)=>some (.ow (.dict kvs),if Ft kvs then e1 else nY js e1,C2)
  | none=>none
 | none=>none
theorem pG.wA {H H':Hp} (t:∀a vs,H a=some (.tup vs)→H' a=some (.tup vs)):∀{ds:List (PyData×PyData)} {vs:List V},Ft ds=true→pG H ds vs→pG H' ds vs
 | [],_,_,h=>h
 | (k,d)::ds,vs,n,h=>by
  obtain ⟨v,r,e,q,w⟩:=h
  have n':L2.wA d=true∧Ft ds=true:=by rw [Ft,Bool.and_eq_true] at n; exact n
  exact ⟨v,r,e,RZ.wA t n'.1 q,pG.wA t n'.2 w⟩
theorem QL {K:PySem.W.Frag} {fi:FI} {T:oU} {ft:FT} {fk fv:FE} {js:List Nat}:∀σ H Q,tE K (Xj fi T ft fk fv js) σ H Q→tDC K (tI K true fi) T (fun _=>mO K ft) (fun _=>tE K fk) (fun _=>tE K fv) js σ H Q:=by
 rintro σ H Q ⟨Z,Θ,env,C,res,env',C',S,hf,q⟩
 unfold Xj at hf
 split at hf
 case h_2=>cases hf
 rename_i its e1 C1 h1
 split at hf
 case h_2=>cases hf
 rename_i kvs C2 h2
 cases hf
 refine ⟨Z,Θ,env,C,its,e1,C1,S,h1,fun J H1 k1 f1 S1 it D hD b=>?_⟩
 have O1:=S1.fz (nq js e1)
 have it':wC (aK Z Θ e1 σ) Θ H1 J its:=it
 let PB:=aK (lA D Z (nY js e1) σ) Θ [] []
 have BK:∀a,a∈PB ↔ a=D∨a∈aK Z Θ (nY js e1) σ:=fun a=>eV (js:=js) rfl
 have ZF:D∈PB:=(BK D).mpr (.inl rfl)
 refine ⟨fun i m H2=>m=its.length - i∧i≤its.length∧∃acc ks gj C2,bK Θ H1 H2∧dX Θ C2 H2∧cC cN acc=some ks∧H2 D=some (.dK (ks.zip gj))∧pG (er PB H2) acc gj∧sO T ft fk fv (frB js e1) (its.drop i) acc C2=some (kvs,C'),
  ⟨its.length,rfl,Nat.zero_le _,[],[],[],C1,bK.upd hD,⟨S1.cell.len,fun n b ns e2 e3=>?_⟩,rfl,aL,rfl,h2⟩,?_⟩
 ·have:=S1.cell.at_ n b ns e2 e3
  rw [aJ (bz this hD)]
  exact this
 rintro i m H2 ⟨rfl,hi,acc,ks,gj,Ci,ki,ci,hks,hDi,ri,hc⟩
 have Xd:aQ (er (aK Z Θ e1 σ) H1) (er PB H2):=fB ki S1.G7 fun b m=>by
  rcases (BK b).mp m with rfl | m
  ·exact .inr hD
  ·exact .inl ((nq js e1).sub b m)
 have Xe:Sm K (lA D Z (nY js e1) σ) Θ (ji []++frB js e1) Ci (([]:List V).map some++frees js σ) H2:=O1.blk hD ki ⟨_,hDi,fun _ z=>nomatch z⟩ ci (show eY _ [] [] from rfl)
 have MP:∀a∈PB,H2 a≠none:=fun a m=>by
  have:=Xe.yW a ((eV (js:=js) (lz (env:=ji []++frB js e1) pH)).mpr ((BK a).mp m))
  exact this
 obtain ⟨U3,U4⟩:=it' i H2 PB Xd (yX ki) MP
 cases hd:its[i]? with
 | none=>
  have hi2:i=its.length:=by
   have:=List.getElem?_eq_none_iff.mp hd
   omega
  rw [hi2,List.drop_length] at hc
  cases hc
  refine .inl ⟨U4 hi2,q _ H2 (k1.trans ki) ?_ ?_⟩
  ·split
   ·exact f1
   ·exact f1.trans (nq js e1)
  ·refine ⟨D,rfl,k1.none hD,?_⟩
   split
   ·rename_i hn
    have SD:=S1.uT hD ki ⟨_,hDi,fun _ z=>nomatch z⟩ ci
    exact ⟨SD,gj,.inl ⟨ks,hks,hDi⟩,ri.wA (fun a vs e=>uL SD (bw e)) hn⟩
   ·have SD:=O1.uT hD ki ⟨_,hDi,fun _ z=>nomatch z⟩ ci
    refine ⟨SD,gj,.inl ⟨ks,hks,hDi⟩,?_⟩
    have:er PB H2=er (aK (D::Z) Θ (nY js e1) σ) H2:=gW fun a=>by
     rw [BK]
     show _ ↔ a∈D::aK Z Θ (nY js e1) σ
     rw [List.mem_cons]
    rw [←this]
    exact ri
 | some d=>
  have hlt:i < its.length:=(List.getElem?_eq_some_iff.mp hd).1
  have ed:its.drop i=d::its.drop (i + 1):=by
   rw [List.drop_eq_getElem_cons hlt]
   obtain ⟨_,e⟩:=List.getElem?_eq_some_iff.mp hd
   rw [e]
  rw [ed] at hc
  unfold sO at hc
  obtain ⟨go,yl⟩:=U3 d hd
  refine .inr ⟨go,fun x H3 y=>?_⟩
  obtain ⟨s3,r3⟩:=yl x H3 y
  split at hc
  case h_2=>cases hc
  rename_i ts ht
  obtain ⟨vs,tv,rvs⟩:=MN (K:=K) ht r3 (sE _ _)
  refine ⟨vs,tv,?_⟩
  have k3:bK Θ H1 H3:=ki.trans (bK.of s3)
  have JH:H3 D=some (.dK (ks.zip gj)):=s3 _ _ hDi
  have c3:dX Θ Ci H3:=⟨ci.len,fun n b ns e2 e3=>s3 _ _ (ci.at_ n b ns e2 e3)⟩
  have r3':pG (er PB H3) acc gj:=ri.same (qt s3)
  have SB:Sm K (lA D Z (nY js e1) σ) Θ (ji ts++frB js e1) Ci (vs.map some++frees js σ) H3:=O1.blk hD k3 ⟨_,JH,fun _ z=>nomatch z⟩ c3 rvs
  have wF:D∉Θ:=fun m=>(S1.cell.dom D m).ne hD
  have stay:∀{Hx Hy:Hp},bK Θ Hx Hy→Hx D=some (.dK (ks.zip gj))→pG (er PB Hx) acc gj→Hy D=some (.dK (ks.zip gj))∧pG (er PB Hy) acc gj:=fun {Hx Hy} kk h1 h2=>
   ⟨kk.keep _ _ h1 wF,h2.same (fB kk (fun a m=>(BK a).mpr (.inr (bF.mpr (.inr (.inl m))))) fun a m=>.inl m)⟩
  have ePB:∀{eB:En} (Hx:Hp),Fz (ji ts++frB js e1) eB→er (aK (lA D Z (nY js e1) σ) Θ eB (vs.map some++frees js σ)) Hx=er PB Hx:=fun {eB} Hx fz=>gW fun a=>by
   have ZJ:aV eB (vs.map some++frees js σ)=[]:=by
    have:=(Fz.own (σ:=vs.map some++frees js σ) fz)
    rw [lz pH] at this
    exact List.sublist_nil.mp this
   rw [eV (js:=js) ZJ,BK]
  split at hc
  ·rename_i Ct MT
   refine ⟨_,Θ,_,Ci,false,Ct,SB,MT,fun H4 k4 S4=>vZ ⟨its.length - (i + 1),by omega,rfl,hlt,acc,ks,gj,Ct,k3.trans k4,S4.cell,hks,(stay k4 JH r3').1,(stay k4 JH r3').2,hc⟩⟩
  ·rename_i Ct MT
   split at hc
   case h_2=>cases hc
   rename_i kd eK CK hfk
   split at hc
   case h_2=>cases hc
   rename_i xr eB CB hfv
   split at hc
   case h_2=>cases hc
   rename_i yd kk Xf hkd
   split at hc
   case isFalse=>cases hc
   rename_i hlm
   refine ⟨_,Θ,_,Ci,true,Ct,SB,MT,fun H4 k4 S4=>wg ⟨_,Θ,_,Ct,_,eK,CK,S4,hfk,fun y H5 k5 f5 R5=>?_⟩⟩
   have S5:=S4.go k5 R5.1.cell
   refine ⟨_,Θ,_,CK,xr,eB,CB,S5,hfv,fun z H6 k6 f6 R6=>?_⟩
   obtain ⟨S6,r6⟩:=R6.lW Xf
   obtain ⟨ZG,r4⟩:=stay k4 JH r3'
   obtain ⟨Xg,Yl⟩:=stay k5 ZG r4
   obtain ⟨hD6,r6'⟩:=stay k6 Xg Yl
   rw [ePB H6 f6] at r6
   have yk:y=kV kk:=Mq hkd R5.2
   obtain ⟨ks',vs',g3,g4,g5⟩:=tV hkd r6 hks r6'
   refine ⟨ks.zip gj,kk,hD6,yk,?_,its.length - (i + 1),by omega,rfl,hlt,oN cN kk kd yd acc,ks',vs',CB,?_,?_,g3,by rw [g5]; exact aL,?_,hc⟩
   ·rw [List.length_zip,sizeLine_eq,jW hks]
    unfold LIM at hlm
    omega
   ·have kk':=((k3.trans k4).trans k5).trans k6
    refine ⟨fun a o ha na=>?_,fun a ha=>?_⟩
    ·rw [aJ (bz ha hD)]
     exact kk'.keep _ _ ha na
    ·by_cases z:a=D
     ·subst z; rw [aL]; exact Option.some_ne_none _
     ·rw [aJ z]; exact kk'.dom a ha
   ·refine ⟨S6.cell.len,fun n b ns e2 e3=>?_⟩
    rw [aJ]
    ·exact S6.cell.at_ n b ns e2 e3
    ·intro z
     subst z
     exact wF (List.mem_of_getElem? e2)
   ·rw [Fj ZF]
    exact g4
  ·cases hc
section
variable {X:Cx} {NT NF:List Str} {js:List Nat} {kx vx tg iter:Expr} {ifs:List Expr} {T:oU} {fi:FI} {ft:FT} {fk fv:FE} {scope:Scope} {pos:Pos}
theorem Nh {i:Nat} {y:Str} {pos' spos:Pos} (B:jT X NT NF js scope) (tk:qg tg NT T) (hc:X.calm=true) (hu:X.A.units + 1 < cLine) (hi:PI X tg iter (tI X.K true fi))
  (hin:∀b,Dr (X.bk (NT++NF) scope b) ifs (mO X.K ft)∧PE (X.bk (NT++NF) scope b) kx (tE X.K fk)∧PE (X.bk (NT++NF) scope b) vx (tE X.K fv))
  (hsw:swapsWith (.DictComp kx vx [⟨tg,iter,ifs,0⟩] scope pos) (some (.Name y pos')) spos.line X.env=pure true) (hN:X.N.Nodup) (hI:X.N[i]?=some y) (hy:X.env.scope.names.lookup y=some .local)
  (hs:∀x,foldedSetIterable iter X.env x=pure x:=by intro _; rfl):PS X (.Assign [.Name y pos'] (.DictComp kx vx [⟨tg,iter,ifs,0⟩] scope pos) spos) (tS X.K (fSet i (Xj fi T ft fk fv js))):=(Lj B tk hc hu hi hin hsw hN hI hy hs).weak (uU QL)
end
end L2
namespace L2
open PySem PySem.Spec PyProof.Rows PySem.W
section
variable {X:Cx}
end
noncomputable def qI:List PyData→List PyData→List PyData
 | x::xs,y::ys=>.tuple [x,y]::qI xs ys
 | _,_=>[]
theorem Hw:∀{xs ys:List PyData} {i:Nat} {d:PyData},(qI xs ys)[i]?=some d→∃x y,xs[i]?=some x∧ys[i]?=some y∧d=.tuple [x,y]
 | [],_,i,d,h=>by simp [qI] at h
 | _::_,[],i,d,h=>by simp [qI] at h
 | x::xs,y::ys,0,d,h=>by
  simp [qI] at h
  exact ⟨x,y,rfl,rfl,h.symm⟩
 | x::xs,y::ys,i + 1,d,h=>by
  obtain ⟨a,b,h1,h2,h3⟩:=Hw (i:=i) (by simpa [qI] using h)
  exact ⟨a,b,by simpa using h1,by simpa using h2,h3⟩
theorem Ck:∀{xs ys:List PyData},(qI xs ys).length=min xs.length ys.length
 | [],_=>by simp [qI]
 | _::_,[]=>by simp [qI]
 | x::xs,y::ys=>by simp [qI,Ck,Nat.succ_min_succ]
theorem Va {K:PySem.W.Frag} {P T:List Addr} {H:Hp} {a b:Addr} {ds es:List PyData} {vs ws:List V} (ha:er T H a=some (.lst vs)) (hb:er T H b=some (.lst ws)) (r1:eY (er P H) ds vs) (r2:eY (er P H) es ws):wC P T H (Zn K a b) (qI ds es):=fun i H2 P2 s1 s2 n=>by
 have h2:cZ K H2 a vs:=cZ.of (bw (s2 _ _ ha))
 have h3:cZ K H2 b ws:=cZ.of (bw (s2 _ _ hb))
 refine ⟨fun d hd=>?_,fun hi=>⟨vs,ws,h2,h3,by rw [hi,Ck,bI r1,bI r2]⟩⟩
 obtain ⟨x,y,e1,e2,rfl⟩:=Hw hd
 obtain ⟨v,ev,rv⟩:=m5 r1 e1
 obtain ⟨w,ew,rw'⟩:=m5 r2 e2
 refine ⟨⟨vs,ws,h2,h3,?_⟩,fun z H3 yl=>?_⟩
 ·have l1:=(List.getElem?_eq_some_iff.mp ev).1
  have l2:=(List.getElem?_eq_some_iff.mp ew).1
  omega
 ·obtain ⟨p,v',w',hp,rfl,rfl,hh⟩:=yl
  obtain ⟨g1,g2⟩:=hh vs ws h2 h3
  rw [ev] at g1
  rw [ew] at g2
  cases g1
  cases g2
  have sp:aQ H2 (upd H2 p (.tup [v,w])):=aQ.upd hp
  refine ⟨sp,p,[v,w],rfl,?_,v,[w],rfl,rv.same (s1.trans (qt sp)),w,[],rfl,rw'.same (s1.trans (qt sp)),rfl⟩
  unfold er
  rw [if_neg (fun m=>n p m hp),aL]
noncomputable def Yn (f:OJ):FI:=fun env C=>match f env C with
 | some ([.list xs,.list ys],e1,C1)=>some (qI xs ys,e1,C1)
 | _=>none
theorem Vb {X:Cx} {es:List Expr} {k:Nat} {ps:Pos} {x y:Expr} {f:OJ} {p pos:Pos} (hg:Gl X "zip") (hm:X.mg "zip"=none) (ha:PA X [x,y] (RT X.K f)) (hs:starEach [x,y] X.env=[(false,eval x X.env),(false,eval y X.env)]:=by rfl) (hs2:starEach [y] X.env=[(false,eval y X.env)]:=by rfl):
  PI X (.Tuple es k ps) (.Call (.Name "zip" p) [x,y] [] pos) (tI X.K true (Yn f)):=(Ug hg hm ha hs hs2).weak fun σ H R aP=>by
 obtain ⟨Z,Θ,env,C,its,env',C',S,hf,q⟩:=aP
 unfold Yn at hf
 split at hf
 case h_2=>cases hf
 rename_i xs ys e1 C1 h1
 cases hf
 refine ⟨Z,Θ,env,C,_,env',C',S,h1,fun vs H1 k f S1 b1=>?_⟩
 cases b1 with
 | cons b1 b2=>
  cases b2 with
  | cons b2 b3=>
   cases b3
   obtain ⟨a,vs1,rfl,ha,r1⟩:=b1
   obtain ⟨b,vs2,rfl,hb,r2⟩:=b2
   exact ⟨a,b,vs1,vs2,rfl,cZ.of (bw ha),cZ.of (bw hb),q _ H1 k f S1 (Va ha hb r1 r2)⟩
end L2
namespace L2
open PySem PySem.Spec PyProof.Rows PySem.W
section
variable {X:Cx} {tg e:Expr}
noncomputable def itD2:PyData→Option (List PyData)
 | .list ds=>some ds
 | .tuple ds=>some ds
 | _=>none
noncomputable def iB2 (f:FB):FI:=fun env C=>match f env C with
 | some (d,e1,C1)=>match itD2 d with
  | some its=>some (its,e1,C1)
  | none=>none
 | none=>none
noncomputable def iV2 (f:FE):FI:=fun env C=>match f env C with
 | some (r,e1,C1)=>match still r with
  | .im d=>match itD2 d with
   | some its=>some (its,e1,C1)
   | none=>none
  | _=>none
 | none=>none
theorem Hz {f:FB} (h:PE X e (kY X.K f)):PI X tg e (tI X.K true (iB2 f)):=((tK h).or (yE h)).weak fun σ H R aP=>by
 obtain ⟨Z,Θ,env,C,its,env',C',S,hf,q⟩:=aP
 unfold iB2 at hf
 split at hf
 ·rename_i d e1 C1 h1
  split at hf
  ·rename_i ys hi
   cases hf
   cases d <;> first | cases hi | skip
   ·refine .inl ⟨Z,Θ,env,C,_,env',C',S,h1,fun v H1 k f S1 b=>?_⟩
    obtain ⟨a,vs,rfl,ha,r⟩:=b
    exact ⟨a,rfl,⟨vs,cZ.of (bw ha)⟩,q _ H1 k f S1 (tW ha r)⟩
   ·refine .inr ⟨Z,Θ,env,C,_,env',C',S,h1,fun v H1 k f S1 b=>?_⟩
    obtain ⟨a,vs,rfl,ha,r⟩:=b
    exact ⟨a,rfl,⟨vs,ig.of (bw ha)⟩,q _ H1 k f S1 (zy ha r)⟩
  ·cases hf
 ·cases hf
theorem Xk {f:FE} (h:PE X e (tE X.K f)):PI X tg e (tI X.K false (iV2 f)):=((tK h).or (yE h)).weak fun σ H R aP=>by
 obtain ⟨Z,Θ,env,C,its,env',C',S,hf,q⟩:=aP
 unfold iV2 at hf
 split at hf
 ·rename_i r e1 C1 h1
  split at hf
  ·rename_i d hd
   split at hf
   ·rename_i ys hi
    cases hf
    cases d <;> first | cases hi | skip
    ·refine .inl ⟨Z,Θ,env,C,_,env',C',S,h1,fun v H1 k f R=>?_⟩
     obtain ⟨S1,a,vs,rfl,ha,r⟩:=R.lW hd
     exact ⟨a,rfl,⟨vs,cZ.of (bw ha)⟩,q _ H1 k f S1 (tW ha r)⟩
    ·refine .inr ⟨Z,Θ,env,C,_,env',C',S,h1,fun v H1 k f R=>?_⟩
     obtain ⟨S1,a,vs,rfl,ha,r⟩:=R.lW hd
     exact ⟨a,rfl,⟨vs,ig.of (bw ha)⟩,q _ H1 k f S1 (zy ha r)⟩
   ·cases hf
  ·cases hf
 ·cases hf
end
noncomputable def Ni:FN:=fun _ _=>none
theorem QM {P:Program} {w:World} {K:PySem.W.Frag} {mg:Str→Option Value} {base:Heap} {f:Addr} {fd:FuncData} {ps:List Str}:dG P w K mg base qb 0 f fd ps (spT K Ni):=by
 have no:∀vs H Q E,¬spT K Ni vs H Q E:=fun vs H Q E ⟨_,_,_,_,_,_,_,_,h,_⟩=>nomatch h
 exact ⟨fun _ _ _ _ h=>(no _ _ _ _ h).elim,fun _ _ _ _ _ _ _ _ _ _ _ _ _ h=>(no _ _ _ _ h).elim⟩
end L2
namespace L2
open PySem PySem.Spec PyProof.Rows PySem.W
noncomputable def u6 (i:Nat) (f:FB):FE:=fun env C=>match env[i]? with
 | some (some (.ce n))=>match f env C with
  | some (.int k,_,C1)=>match C1[n]? with
   | some ns=>match iD ns k with
    | some z=>some (.im (.int z),env,C1)
    | none=>none
   | none=>none
  | _=>none
 | _=>none
theorem pJ {X:Cx} {o k:Expr} {i:Nat} {pos:Pos} {f:FB} (ho:PE X o (uc i)) (hk:PE X k (kY X.K f)) (hs:tL k):PE X (.Subscript o k pos) (tE X.K (u6 i f)):=(KY yK ho hk hs).weak fun σ H Q aP=>by
 obtain ⟨Z,Θ,env,C,r,env',C',S,hf,q⟩:=aP
 unfold u6 at hf
 split at hf
 case h_2=>cases hf
 rename_i n h0
 split at hf
 case h_2=>cases hf
 rename_i z e1 C1 h1
 split at hf
 case h_2=>cases hf
 rename_i ns hns
 split at hf
 case h_2=>cases hf
 rename_i y hy
 cases hf
 obtain ⟨v,ev,a,rfl,hth⟩:=S.slot i _ h0
 refine ⟨_,ev,Z,Θ,env,C,_,e1,C',S,h1,fun w H1 k1 f1 S1 b1=>?_⟩
 have S2:=S.go k1 S1.cell
 have ha:=S1.cell.at_ n a ns hth hns
 refine ⟨a,_,z,.int y,rfl,b1,cZ.of ha,?_,q _ H1 k1 (Fz.refl _) ⟨S2,rfl⟩⟩
 unfold iD at hy ⊢
 rw [List.length_map]
 cases hj:Ea ns.length z with
 | none=>rw [hj] at hy; cases hy
 | some j=>
  rw [hj] at hy
  show (ns.map V.int)[j]?=_
  rw [List.getElem?_map,show ns[j]?=some y from hy]
  rfl
end L2
namespace L2
open PySem PySem.Spec PyProof.Rows PySem.W
noncomputable def Bx (C:Ce) (b:Nat) (n:Int):Prop:=∃x y z:Int,C[b]?=some [x,y,z]∧0≤x∧0≤y∧y≤3000000000∧0≤z∧z≤n
theorem Bx.mono {C:Ce} {b:Nat} {n m:Int} (h:Bx C b n) (hm:n≤m):Bx C b m:=by
 obtain ⟨x,y,z,h1,h2,h3,h4,h5,h6⟩:=h
 exact ⟨x,y,z,h1,h2,h3,h4,h5,by omega⟩
theorem Nj {C:Ce} {b:Nat} {l l':List Int} (h:C[b]?=some l):(C.set b l')[b]?=some l':=by
 rw [List.getElem?_set,if_pos rfl,if_pos (List.getElem?_eq_some_iff.mp h).1]
theorem Cm {C C':Ce} (h:C'.length=C.length):C'.take C.length=C':=List.take_of_length_le (by omega)
theorem mul_eq {i j:Int} (h:(-18446744073709551616 < i∧i < 18446744073709551616)∨(-18446744073709551616 < j∧j < 18446744073709551616)):fP (.int i) (.int j)=some (.im (.int (i * j))):=by
 unfold fP
 exact if_pos h
theorem mod_eq {i j:Int} (h:0 < j):fD (.int i) (.int j)=some (.im (.int (i % j))):=by
 unfold fD
 exact if_pos h
theorem fdiv_eq {i j:Int} (h:0 < j) (h1:j < 1073741824):m7 (.int i) (.int j)=some (.im (.int (i / j))):=by
 unfold m7
 exact if_pos ⟨h,h1⟩
theorem Cp {g:FG} {body:FS} (I:Nat→En→Ce→Prop):∀{its:List PyData} {env:En} {C:Ce} {k:Nat},I k env C→
  (∀i d env C,its[i]?=some d→I (k + i) env C→∃e1 fl env' C',g d env=some e1∧body e1 C=some (fl,env',C')∧(fl=.nx∨fl=.ct)∧I (k + i + 1) env' C')→
  ∃env' C',iU g body its env C=some (.nx,env',C')∧I (k + its.length) env' C'
 | [],env,C,k,h,_=>⟨env,C,rfl,h⟩
 | d::r,env,C,k,h,st=>by
  obtain ⟨e1,fl,ZK,C1,h1,h2,h3,h4⟩:=st 0 d env C rfl h
  obtain ⟨Xl,C2,h5,h6⟩:=Cp I (its:=r) (env:=ZK) (C:=C1) (k:=k + 1) h4 fun i d' env C hd hi=>by
   have:=st (i + 1) d' env C (by simpa using hd) (by rw [show k + (i + 1)=k + 1 + i by omega]; exact hi)
   rw [show k + (i + 1) + 1=k + 1 + i + 1 by omega] at this
   exact this
  refine ⟨Xl,C2,?_,by rw [List.length_cons,show k + (r.length + 1)=k + 1 + r.length by omega]; exact h6⟩
  unfold iU
  rw [h1]
  simp only
  rw [h2]
  rcases h3 with rfl | rfl <;> exact h5
theorem fG {g:FG} {body:FS} (I:Nat→En→Ce→Prop) {its:List PyData} {env:En} {C:Ce} (h:I 0 env C)
  (st:∀i d env C,its[i]?=some d→I i env C→∃e1 fl env' C',g d env=some e1∧body e1 C=some (fl,env',C')∧(fl=.nx∨fl=.ct)∧I (i + 1) env' C'):
  ∃env' C',iU g body its env C=some (.nx,env',C')∧I its.length env' C':=by
 have:=Cp I (k:=0) h fun i d env C hd hi=>by
  rw [Nat.zero_add] at hi ⊢
  exact st i d env C hd hi
 rw [Nat.zero_add] at this
 exact this
theorem qJ (lo:Int) (n:Nat):(iT lo n).length=n:=by unfold iT; rw [List.length_map,List.length_range]
theorem oh {lo:Int} {n i:Nat} {d:PyData} (h:(iT lo n)[i]?=some d):d=.int (lo + i)∧i < n:=by
 unfold iT at h
 rw [List.getElem?_map] at h
 by_cases hi:i < n
 ·rw [List.getElem?_range hi] at h
  exact ⟨(Option.some.inj h).symm,hi⟩
 ·rw [List.getElem?_eq_none (by rw [List.length_range]; omega)] at h
  cases h
theorem xV {T:oU} {fe:FE} {fs:En} (I:Nat→Ce→Prop) (R:Nat→PyData→Prop):∀{its:List PyData} {C:Ce} {k:Nat},I k C→(∀i d C,its[i]?=some d→I (k + i) C→∃ts x e C' y,U5 T d=some ts∧fe (ji ts++fs) C=some (x,e,C')∧still x=.im y∧R (k + i) y∧I (k + i + 1) C')→
  ∃ys C',fV T gH fe fs its C=some (ys,C')∧I (k + its.length) C'∧ys.length=its.length∧∀i y,ys[i]?=some y→R (k + i) y
 | [],C,k,h,_=>⟨[],C,rfl,h,rfl,fun i y e=>by simp at e⟩
 | d::r,C,k,h,st=>by
  obtain ⟨ts,x,e,C1,y,h1,h2,h3,h4,h5⟩:=st 0 d C rfl h
  obtain ⟨ys,C2,h6,h7,h8,h9⟩:=xV I R (its:=r) (C:=C1) (k:=k + 1) h5 fun i d' C hd hi=>by
   have:=st (i + 1) d' C (by simpa using hd) (by rw [show k + (i + 1)=k + 1 + i by omega]; exact hi)
   rw [show k + (i + 1) + 1=k + 1 + i + 1 by omega,show k + (i + 1)=k + 1 + i by omega] at this
   exact this
  refine ⟨y::ys,C2,?_,by rw [List.length_cons,show k + (r.length + 1)=k + 1 + r.length by omega]; exact h7,by simp [h8],fun i z hz=>?_⟩
  ·unfold fV
   simp only [h1,gH,h2,h3]
   rw [h6]
  ·cases i with
   | zero=>simp at hz; subst hz; exact h4
   | succ i=>
    have:=h9 i z (by simpa using hz)
    rw [show k + (i + 1)=k + 1 + i by omega]
    exact this
theorem Nk {α:Type} {xs:List α} {k:Int} (h0:0≤k) (h1:k < xs.length):∃x,iD xs k=some x∧xs[k.toNat]?=some x:=by
 have hk:k.toNat < xs.length:=by omega
 refine ⟨xs[k.toNat],?_,List.getElem?_eq_getElem hk⟩
 unfold iD Ea
 rw [if_pos h0,if_pos h1]
 exact List.getElem?_eq_getElem hk
end L2
namespace L2
open PySem PySem.Spec PyProof.Rows PySem.W
noncomputable def ZL (z:Str):Bool:=z.cps.toList.all fun c=>decide (97≤c)&&decide (c≤122)
noncomputable def nameB (z:Str):Bool:=decide (1≤z.length)&&decide (z.length≤8)&&ZL z
noncomputable abbrev abc:Str:=Str.ofString "abcdefghijklmnopqrstuvwxyz"
theorem Vc {r:Int} (r0:0≤r) (r1:r < 26):iD abc.cps.toList r=some (97 + r.toNat):=by
 have h:∀k:Nat,k < 26→iD abc.cps.toList (k:Int)=some (97 + k):=by decide +kernel
 have:=h r.toNat (by omega)
 rwa [Int.toNat_of_nonneg r0] at this
theorem u9:∀(l:List Nat) (a:Array Nat),((l.map fun c=>(⟨#[c]⟩:Str)).foldl (fun acc p=>acc++(Str.ofString "").cps++p.cps) a).toList=a.toList++l
 | [],a=>by simp
 | c::r,a=>by
  simp only [List.map_cons,List.foldl_cons]
  rw [u9 r]
  have e:(Str.ofString "").cps=#[]:=by decide +kernel
  rw [e]
  simp
theorem vd:∀(l:List Nat),(Txt.join (Str.ofString "") (l.map fun c=>(⟨#[c]⟩:Str))).cps.toList=l
 | []=>by decide +kernel
 | c::r=>by
  show (((r.map fun c=>(⟨#[c]⟩:Str))).foldl (fun acc p=>acc++(Str.ofString "").cps++p.cps) #[c]).toList=c::r
  rw [u9 r]
  rfl
theorem HB:∀ys:List Nat,(ys.map ((fun x:Str=>x.length) ∘ fun c=>(⟨#[c]⟩:Str))).sum=ys.length
 | []=>rfl
 | c::r=>by
  rw [List.map_cons,List.sum_cons,HB r,List.length_cons]
  show 1 + r.length=r.length + 1
  omega
theorem QS {z:Str} {l u:Option Int} {c:Nat} (hc:c∈(Txt.slice z l u).cps.toList):c∈z.cps.toList:=by
 unfold Txt.slice at hc
 split at hc
 ·exact hc
 ·have hc':c∈((Builtin.Str.strSliceIndices l u 1 z.length).filterMap (z.cps[·]?)):=by simpa using hc
  obtain ⟨i,_,e⟩:=List.mem_filterMap.mp hc'
  have:=Array.mem_of_getElem? e
  simpa using this
noncomputable def Names (zs:List Str):Prop:=zs.Nodup∧∀z∈zs,nameB z=true
theorem qK (z:Str) (zs:List Str):inD (.str z) (zs.map .str)=decide (z∈zs):=by
 unfold inD
 rw [Bool.eq_iff_iff,List.any_map]
 simp [List.any_eq_true,KZ,toV]
end L2
namespace L2
open PySem PySem.Spec PyProof.Rows PySem.W
noncomputable def Asc (z:Str):Prop:=∀c∈z.cps.toList,c < 128
noncomputable def vW (n:Nat) (z:Str):Prop:=Asc z∧z.length≤n
theorem vW.mono {n m:Nat} {z:Str} (h:vW n z) (hm:n≤m):vW m z:=⟨h.1,Nat.le_trans h.2 hm⟩
theorem vW.line {n:Nat} {z:Str} (h:vW n z) (hn:n≤100000:=by omega):z.length≤sizeLine:=Qd (m:=100000) (Nat.le_trans h.2 hn)
theorem vW.slice {n:Nat} {z:Str} (h:vW n z) (l u:Option Int):vW n (Txt.slice z l u):=by
 refine ⟨fun c hc=>?_,Nat.le_trans (Txt.slice_le z l u) h.2⟩
 unfold Txt.slice at hc
 split at hc
 ·exact h.1 c hc
 ·have hc':c∈((Builtin.Str.strSliceIndices l u 1 z.length).filterMap (z.cps[·]?)):=by simpa using hc
  obtain ⟨i,_,e⟩:=List.mem_filterMap.mp hc'
  refine h.1 c ?_
  have:=Array.mem_of_getElem? e
  simpa using this
theorem vW.add {n m:Nat} {x y:Str} (h:vW n x) (g:vW m y):vW (n + m) (x++y):=by
 have e:(x++y).cps=x.cps++y.cps:=rfl
 refine ⟨fun c hc=>?_,?_⟩
 ·rw [e] at hc
  have:c∈x.cps.toList∨c∈y.cps.toList:=by simpa using hc
  exact this.elim (h.1 c) (g.1 c)
 ·show (x++y).cps.size≤_
  rw [e,Array.size_append]
  exact Nat.add_le_add h.2 g.2
theorem vW.name {z:Str} (h:nameB z=true):vW 8 z:=by
 unfold nameB ZL at h
 simp only [Bool.and_eq_true,decide_eq_true_eq,List.all_eq_true] at h
 exact ⟨fun c hc=>by have:=h.2 c hc; omega,h.1.2⟩
noncomputable def bJ (zs:List Str) (ps:List (Str×Str)):Prop:=∀(i:Nat) (x:Str×Str),ps[i]?=some x→zs[i]?=some x.1∧(x.2=Str.ofString ""∨∃j,j < i∧zs[j]?=some x.2)
theorem bJ.snoc {zs:List Str} {ps:List (Str×Str)} {a b:Str} (h:bJ zs ps) (ha:zs[ps.length]?=some a) (hb:b=Str.ofString ""∨∃j,j < ps.length∧zs[j]?=some b):bJ zs (ps++[(a,b)]):=by
 intro i x e
 by_cases hi:i < ps.length
 ·rw [List.getElem?_append_left hi] at e
  exact h i x e
 ·rw [List.getElem?_append_right (by omega)] at e
  by_cases h0:i - ps.length=0
  ·rw [h0] at e
   cases e
   have:i=ps.length:=by omega
   subst this
   exact ⟨ha,hb⟩
  ·rw [List.getElem?_eq_none (by simp; omega)] at e
   cases e
noncomputable def cQ (ps:List (Str×Str)) (z:Str):Option Str:=(ps.find? fun p=>decide (p.1=z)).map (·.2)
inductive Over (f:Str→Option Str):Str→List Str→Prop
 | stop {z:Str}:f z=none→Over f z []
 | step {z y:Str} {r:List Str}:f z=some y→Over f y r→Over f z (z::r)
structure xW (e B:Nat) (d:PyData):Prop where
 Vd:d.showable=true
 deep:d.depth≤e
 len:d.shown.length≤B
theorem HD {i:Int} (h0:0≤i) (h1:i < 10 ^ 12):xW 0 12 (.int i):=by
 refine ⟨?_,by simp [PyData.depth],?_⟩
 ·have:i.natAbs < 2 ^ 40:=by omega
  have h2:i.natAbs.log2 < 1920:=by
   by_cases h:i.natAbs=0
   ·rw [h]; decide
   ·have:=(Nat.log2_lt h).mpr this
    omega
  simpa [PyData.showable] using h2
 ·rw [PyData.shown_int]
  exact PyProof.Rows.toString_length_le h0 (by decide) h1
theorem fX {z:Str} (h:vW 8 z):xW 0 82 (.str z):=by
 refine ⟨by simp [PyData.showable],by simp [PyData.depth],?_⟩
 rw [PyData.shown_str]
 refine Nat.le_trans (StrLaws.reprText_len z fun c hc=>Nat.lt_of_lt_of_le (h.1 c hc) (by decide)) ?_
 have:=h.2
 omega
theorem zH {e B:Nat}:∀{ds:List PyData},(∀d∈ds,xW e B d)→PyData.showableAll ds=true∧PyData.depthAll ds≤e∧((PyData.shownAll ds).map (·.length)).sum≤ds.length * B
 | [],_=>⟨by simp [PyData.showableAll],by simp [PyData.depthAll],by simp [PyData.shownAll]⟩
 | d::ds,h=>by
  obtain ⟨h1,h2,h3⟩:=zH fun x hx=>h x (List.mem_cons_of_mem _ hx)
  have g:=h d List.mem_cons_self
  refine ⟨by simp [PyData.showableAll,g.Vd,h1],?_,?_⟩
  ·simp only [PyData.depthAll]
   have:=g.deep
   omega
  ·simp only [PyData.shownAll,List.map_cons,List.sum_cons,List.length_cons]
   have:=g.len
   rw [Nat.succ_mul]
   omega
theorem eX {e B C:Nat} {ds:List PyData} (h:∀d∈ds,xW e B d) (hc:ds.length≤C):xW (e + 1) (C * (B + 2) + 3) (.tuple ds):=by
 obtain ⟨h1,h2,h3⟩:=zH h
 refine ⟨by simpa [PyData.showable] using h1,by simp [PyData.depth]; omega,?_⟩
 simp only [PyData.shown]
 have:=tupleText_len_le (PyData.shownAll ds)
 have hl:(PyData.shownAll ds).length=ds.length:=PyData.shownAll_length ds
 rw [hl] at this
 have hm:ds.length * B≤C * B:=Nat.mul_le_mul_right B hc
 rw [Nat.mul_add]
 omega
theorem xW.mono {e e' B B':Nat} {d:PyData} (h:xW e B d) (he:e≤e') (hB:B≤B'):xW e' B' d:=⟨h.Vd,Nat.le_trans h.deep he,Nat.le_trans h.len hB⟩
noncomputable abbrev lZ:=Int×Str×Int×Str×Int×Int
noncomputable abbrev cR:=Int×Str×Str×Str×Int×Int×Int
noncomputable abbrev xX:=Int×Str
noncomputable abbrev Cq:=Str×Int×List xX
noncomputable def iZ (r:lZ):PyData:=.tuple [.int r.1,.str r.2.1,.int r.2.2.1,.str r.2.2.2.1,.int r.2.2.2.2.1,.int r.2.2.2.2.2]
noncomputable def bN (r:cR):PyData:=.tuple [.int r.1,.str r.2.1,.str r.2.2.1,.str r.2.2.2.1,.int r.2.2.2.2.1,.int r.2.2.2.2.2.1,.int r.2.2.2.2.2.2]
noncomputable def vf (s:xX):PyData:=.tuple [.int s.1,.str s.2]
noncomputable def Fv (ss:List xX):PyData:=.tuple (ss.map vf)
noncomputable def oX (r:Cq):PyData:=.tuple [.str r.1,.int r.2.1,Fv r.2.2]
noncomputable def jb (p:Str×Str):PyData:=.tuple [.str p.1,.str p.2]
structure cM where
 ps:List (Str×Str)
 mj:List lZ
 leaves:List cR
 rules:List Cq
noncomputable def bQ (h:cM):PyData:=.tuple [.tuple (h.ps.map jb),.tuple (h.mj.map iZ),.tuple (h.leaves.map bN),.tuple (h.rules.map oX)]
structure Ve (zs own:List Str) (r:lZ):Prop where
 num:0≤r.1∧r.1≤2000
 who:r.2.1∈zs
 rank:1≤r.2.2.1∧r.2.2.1≤9
 part:r.2.2.2.1∈own
 days:0≤r.2.2.2.2.1∧r.2.2.2.2.1≤r.2.2.2.2.2∧r.2.2.2.2.2≤99999
structure qL (zs own:List Str) (r:cR):Prop where
 num:0≤r.1∧r.1≤2000
 giver:r.2.1∈zs
 taker:r.2.2.1∈zs
 ne:r.2.1≠r.2.2.1
 part:r.2.2.2.1∈own
 days:0≤r.2.2.2.2.1∧r.2.2.2.2.1≤r.2.2.2.2.2.1∧r.2.2.2.2.2.1≤99999
 most:0≤r.2.2.2.2.2.2∧r.2.2.2.2.2.2≤1000000000
noncomputable def Vf (own:List Str) (s:xX):Prop:=1≤s.1∧s.1≤9∧(s.2=Str.ofString ""∨s.2∈own)
structure Vg (own:List Str) (r:Cq):Prop where
 part:r.1∈own
 sum:0≤r.2.1∧r.2.1≤1000000000
 many:r.2.2.length≤6
 Xm:∀s∈r.2.2,Vf own s
structure dh (zs:List Str) (ps:List (Str×Str)) (h:cM):Prop where
 parts:h.ps.Perm ps
 p8:ps.length≤8
 r20:h.mj.length≤20
 Kd:h.leaves.length≤16
 u10:h.rules.length≤10
 mj:∀r∈h.mj,Ve zs (ps.map (·.1)) r
 rup:(h.mj.map (·.1)).Pairwise (· < ·)
 leaves:∀r∈h.leaves,qL zs (ps.map (·.1)) r
 ZM:(h.leaves.map (·.1)).Pairwise (· < ·)
 rules:∀r∈h.rules,Vg (ps.map (·.1)) r
 unlike:(h.rules.map fun r=>(r.1,r.2.1)).Nodup
theorem Sd:vW 8 (Str.ofString ""):=by
 have e:(Str.ofString "").cps.toList=[]:=by decide +kernel
 refine ⟨fun c hc=>?_,by decide +kernel⟩
 rw [e] at hc
 exact absurd hc (by simp)
theorem JL {zs:List Str} {ps:List (Str×Str)} {h:cM} (hz:∀z∈zs,nameB z=true) (hp:bJ zs ps) (g:dh zs ps h):xW 5 200000 (bQ h):=by
 have sz:∀z∈zs,vW 8 z:=fun z hm=>vW.name (hz z hm)
 have pz:∀x∈ps,vW 8 x.1∧vW 8 x.2:=fun x hx=>by
  obtain ⟨i,hi,rfl⟩:=List.getElem_of_mem hx
  obtain ⟨e1,e2⟩:=hp i ps[i] (List.getElem?_eq_getElem hi)
  refine ⟨sz _ (List.mem_of_getElem? e1),?_⟩
  rcases e2 with e2 | ⟨j,_,e2⟩
  ·rw [e2]
   exact Sd
  ·exact sz _ (List.mem_of_getElem? e2)
 have oz:∀z∈ps.map (·.1),vW 8 z:=fun z hm=>by
  obtain ⟨x,hx,rfl⟩:=List.mem_map.mp hm
  exact (pz x hx).1
 have int':∀{i:Int},0≤i→i < 10 ^ 12→xW 0 82 (.int i):=fun a b=>(HD a b).mono (Nat.le_refl _) (by decide)
 have s1:xW 2 (8 * (171 + 2) + 3) (.tuple (h.ps.map jb)):=by
  refine eX (e:=1) (B:=171) (fun d hd=>?_) (by rw [List.length_map,g.parts.length_eq]; exact g.p8)
  obtain ⟨x,hx,rfl⟩:=List.mem_map.mp hd
  have:=pz x (g.parts.mem_iff.mp hx)
  refine eX (e:=0) (B:=82) (C:=2) (fun d hd=>?_) (Nat.le_refl _)
  simp only [List.mem_cons,List.not_mem_nil,or_false] at hd
  rcases hd with rfl | rfl
  ·exact fX this.1
  ·exact fX this.2
 have s2:xW 2 (20 * (507 + 2) + 3) (.tuple (h.mj.map iZ)):=by
  refine eX (e:=1) (B:=507) (fun d hd=>?_) (by rw [List.length_map]; exact g.r20)
  obtain ⟨x,hx,rfl⟩:=List.mem_map.mp hd
  have k:=g.mj x hx
  refine eX (e:=0) (B:=82) (C:=6) (fun d hd=>?_) (Nat.le_refl _)
  have k1:=k.num
  have k3:=k.rank
  have k5:=k.days
  simp only [List.mem_cons,List.not_mem_nil,or_false] at hd
  rcases hd with rfl | rfl | rfl | rfl | rfl | rfl
  ·exact int' (by omega) (by omega)
  ·exact fX (sz _ k.who)
  ·exact int' (by omega) (by omega)
  ·exact fX (oz _ k.part)
  ·exact int' (by omega) (by omega)
  ·exact int' (by omega) (by omega)
 have s3:xW 2 (16 * (591 + 2) + 3) (.tuple (h.leaves.map bN)):=by
  refine eX (e:=1) (B:=591) (fun d hd=>?_) (by rw [List.length_map]; exact g.Kd)
  obtain ⟨x,hx,rfl⟩:=List.mem_map.mp hd
  have k:=g.leaves x hx
  refine eX (e:=0) (B:=82) (C:=7) (fun d hd=>?_) (Nat.le_refl _)
  have k1:=k.num
  have k3:=k.most
  have k5:=k.days
  simp only [List.mem_cons,List.not_mem_nil,or_false] at hd
  rcases hd with rfl | rfl | rfl | rfl | rfl | rfl | rfl
  ·exact int' (by omega) (by omega)
  ·exact fX (sz _ k.giver)
  ·exact fX (sz _ k.taker)
  ·exact fX (oz _ k.part)
  ·exact int' (by omega) (by omega)
  ·exact int' (by omega) (by omega)
  ·exact int' (by omega) (by omega)
 have s4:xW 4 (10 * (3132 + 2) + 3) (.tuple (h.rules.map oX)):=by
  refine eX (e:=3) (B:=3132) (fun d hd=>?_) (by rw [List.length_map]; exact g.u10)
  obtain ⟨x,hx,rfl⟩:=List.mem_map.mp hd
  have k:=g.rules x hx
  have k2:=k.sum
  have st:xW 2 (6 * (171 + 2) + 3) (Fv x.2.2):=by
   refine eX (e:=1) (B:=171) (fun d hd=>?_) (by rw [List.length_map]; exact k.many)
   obtain ⟨y,hy,rfl⟩:=List.mem_map.mp hd
   obtain ⟨y1,y2,y3⟩:=k.Xm y hy
   refine eX (e:=0) (B:=82) (C:=2) (fun d hd=>?_) (Nat.le_refl _)
   simp only [List.mem_cons,List.not_mem_nil,or_false] at hd
   rcases hd with rfl | rfl
   ·exact int' (by omega) (by omega)
   ·rcases y3 with y3 | y3
    ·rw [y3]
     exact fX Sd
    ·exact fX (oz _ y3)
  refine (eX (e:=2) (B:=1041) (C:=3) (ds:=[.str x.1,.int x.2.1,Fv x.2.2]) (fun d hd=>?_) (Nat.le_refl _)).mono (by decide) (by decide)
  simp only [List.mem_cons,List.not_mem_nil,or_false] at hd
  rcases hd with rfl | rfl | rfl
  ·exact (fX (oz _ k.part)).mono (by decide) (by decide)
  ·exact (int' (by omega) (by omega)).mono (by decide) (by decide)
  ·exact st.mono (by decide) (by decide)
 refine (eX (e:=4) (B:=32000) (C:=4) (ds:=[.tuple (h.ps.map jb),.tuple (h.mj.map iZ),.tuple (h.leaves.map bN),.tuple (h.rules.map oX)]) (fun d hd=>?_) (Nat.le_refl _)).mono (by decide) (by decide)
 simp only [List.mem_cons,List.not_mem_nil,or_false] at hd
 rcases hd with rfl | rfl | rfl | rfl
 ·exact s1.mono (by decide) (by decide)
 ·exact s2.mono (by decide) (by decide)
 ·exact s3.mono (by decide) (by decide)
 ·exact s4.mono (by decide) (by decide)
theorem zJ {α β:Type} {f:α→β}:∀{l:List α} {m:List β},m.Perm (l.map f)→∃l':List α,l'.Perm l∧m=l'.map f:=fun {l m} p=>by
 generalize e:l.map f=k at p
 induction p generalizing l with
 | nil=>
  cases l with
  | nil=>exact ⟨[],List.Perm.refl _,rfl⟩
  | cons _ _=>cases e
 | @cons x m k _ ih=>
  cases l with
  | nil=>cases e
  | cons a l=>
   rw [List.map_cons,List.cons.injEq] at e
   obtain ⟨l',p',rfl⟩:=ih e.2
   exact ⟨a::l',p'.cons a,by rw [List.map_cons,e.1]⟩
 | swap x y m=>
  cases l with
  | nil=>cases e
  | cons a l=>
   cases l with
   | nil=>cases e
   | cons b l=>
    rw [List.map_cons,List.map_cons,List.cons.injEq,List.cons.injEq] at e
    obtain ⟨e1,e2,e3⟩:=e
    exact ⟨b::a::l,List.Perm.swap a b l,by rw [List.map_cons,List.map_cons,e1,e2,e3]⟩
 | trans _ _ ih1 ih2=>
  obtain ⟨l2,p2,e2⟩:=ih2 e
  obtain ⟨l1,p1,e1⟩:=ih1 e2.symm
  exact ⟨l1,p1.trans p2,e1⟩
end L2
namespace L2
open PySem PySem.Spec PyProof.Rows PySem.W
theorem Fw (x:Str×Str) (ps:List (Str×Str)) (z:Str):cQ (x::ps) z=if x.1=z then some x.2 else cQ ps z:=by
 unfold cQ
 rw [List.find?_cons]
 by_cases h:x.1=z
 ·rw [decide_eq_true h,if_pos h]
  rfl
 ·rw [decide_eq_false h,if_neg h]
theorem dI:∀{ps:List (Str×Str)} {z w:Str},(ps.map (·.1)).Nodup→(cQ ps z=some w ↔ (z,w)∈ps)
 | [],z,w,_=>by simp [cQ]
 | x::ps,z,w,h=>by
  rw [List.map_cons,List.nodup_cons] at h
  rw [Fw]
  by_cases hz:x.1=z
  ·rw [if_pos hz,List.mem_cons]
   constructor
   ·intro e
    left
    rw [←hz,←Option.some.inj e]
   ·rintro (e | e)
    ·rw [←e]
    ·exact absurd (List.mem_map.mpr ⟨(z,w),e,hz.symm⟩) h.1
  ·rw [if_neg hz,dI h.2,List.mem_cons]
   constructor
   ·exact .inr
   ·rintro (e | e)
    ·exact absurd (by rw [←e]) hz
    ·exact e
theorem FJ {ps ps':List (Str×Str)} (p:ps'.Perm ps) (h:(ps.map (·.1)).Nodup) (z:Str):cQ ps' z=cQ ps z:=by
 have h':(ps'.map (·.1)).Nodup:=(p.map (·.1)).nodup_iff.mpr h
 cases e:cQ ps z with
 | some w=>exact (dI h').mpr (p.mem_iff.mpr ((dI h).mp e))
 | none=>
  cases e':cQ ps' z with
  | none=>rfl
  | some w=>
   have:=(dI h).mpr (p.mem_iff.mp ((dI h').mp e'))
   rw [e] at this
   cases this
theorem pK {zs:List Str} {ps:List (Str×Str)} (h:bJ zs ps):ps.map (·.1)=zs.take ps.length:=by
 apply List.ext_getElem?
 intro i
 rw [List.getElem?_map,List.getElem?_take]
 cases e:ps[i]? with
 | none=>
  rw [if_neg (by have:=List.getElem?_eq_none_iff.mp e; omega)]
  rfl
 | some x=>
  rw [if_pos (List.getElem?_eq_some_iff.mp e).1,(h i x e).1]
  rfl
theorem ju {zs:List Str} {ps:List (Str×Str)} (hN:Names zs) (h:bJ zs ps):(ps.map (·.1)).Nodup:=by
 rw [pK h]
 exact hN.1.sublist (List.take_sublist _ _)
theorem zK:nameB (Str.ofString "")=false:=by decide +kernel
theorem FP {zs:List Str} {ps:List (Str×Str)} (hN:Names zs) (h:bJ zs ps) {z:Str} (hz:z∈ps.map (·.1)):nameB z=true:=by
 rw [pK h] at hz
 exact hN.2 z (List.mem_of_mem_take hz)
theorem vg {zs:List Str} {ps:List (Str×Str)} (hN:Names zs) (h:bJ zs ps):cQ ps (Str.ofString "")=none:=by
 cases e:cQ ps (Str.ofString "") with
 | none=>rfl
 | some w=>
  have:=(dI (ju hN h)).mp e
  have:=FP hN h (List.mem_map.mpr ⟨_,this,rfl⟩)
  rw [zK] at this
  cases this
noncomputable def QT (f:Str→Option Str):Nat→Str→List Str
 | 0,_=>[]
 | n + 1,z=>match f z with
  | none=>[]
  | some y=>z::QT f n y
noncomputable def up (ps:List (Str×Str)) (z:Str):List Str:=QT (cQ ps) (ps.length + 1) z
theorem vh {f:Str→Option Str} {z:Str} (h:f z=none):∀n,QT f n z=[]
 | 0=>rfl
 | n + 1=>by unfold QT; rw [h]
theorem Cr {f:Str→Option Str} {z y:Str} (h:f z=some y) (n:Nat):QT f (n + 1) z=z::QT f n y:=by
 rw [QT,h]
theorem HF {f:Str→Option Str}:∀n z,(QT f n z).length≤n
 | 0,_=>Nat.le_refl 0
 | n + 1,z=>by
  cases h:f z with
  | none=>rw [vh h]; exact Nat.zero_le _
  | some y=>
   rw [Cr h,List.length_cons]
   exact Nat.succ_le_succ (HF n y)
theorem HH {zs:List Str} {ps:List (Str×Str)} (hN:Names zs) (hP:bJ zs ps):∀(n i:Nat),i < n→∀x,ps[i]?=some x→Over (cQ ps) x.1 (QT (cQ ps) n x.1)
 | 0,_,h,_,_=>absurd h (Nat.not_lt_zero _)
 | n + 1,i,h,x,hx=>by
  have e:cQ ps x.1=some x.2:=(dI (ju hN hP)).mpr (List.mem_of_getElem? hx)
  rw [Cr e]
  refine .step e ?_
  rcases (hP i x hx).2 with h2 | ⟨j,hj,h2⟩
  ·rw [h2,vh (vg hN hP)]
   exact .stop (vg hN hP)
  ·have hi:=(List.getElem?_eq_some_iff.mp hx).1
   have hjl:j < ps.length:=by omega
   have g:=hP j ps[j] (List.getElem?_eq_getElem hjl)
   have e2:ps[j].1=x.2:=by
    have:=g.1
    rw [h2] at this
    exact (Option.some.inj this).symm
   rw [←e2]
   exact HH hN hP n j (by omega) ps[j] (List.getElem?_eq_getElem hjl)
theorem HJ {zs:List Str} {ps:List (Str×Str)} (hN:Names zs) (hP:bJ zs ps) (z:Str):Over (cQ ps) z (up ps z):=by
 unfold up
 cases e:cQ ps z with
 | none=>
  rw [vh e]
  exact .stop e
 | some w=>
  obtain ⟨i,hi,hx⟩:=List.getElem_of_mem ((dI (ju hN hP)).mp e)
  have:=HH hN hP (ps.length + 1) i (by omega) _ (List.getElem?_eq_getElem hi)
  rw [hx] at this
  exact this
theorem Nm (ps:List (Str×Str)) (z:Str):(up ps z).length≤ps.length + 1:=HF _ _
noncomputable def cD (l:List (Str×PyData)):List (PyData×PyData):=l.map fun p=>(.str p.1,p.2)
theorem qM:∀l:List (Str×PyData),cC cN (cD l)=some (l.map fun p=>.inr p.1)
 | []=>rfl
 | p::l=>by
  rw [show cD (p::l)=(.str p.1,p.2)::cD l from rfl]
  unfold cC
  rw [qM l]
  simp only [cN]
  rfl
theorem zL (x z:Str):(cN (.str x)=some (.inr z)) ↔ x=z:=by
 simp [cN]
theorem xY (z:Str):∀l:List (Str×PyData),lU cN (.inr z) (cD l)=(l.find? fun p=>decide (p.1=z)).map (·.2)
 | []=>rfl
 | p::l=>by
  show (if cN (.str p.1)=some (.inr z) then some p.2 else lU cN (.inr z) (cD l))=_
  rw [List.find?_cons]
  by_cases h:p.1=z
  ·rw [if_pos ((zL _ _).mpr h),decide_eq_true h]
   rfl
  ·rw [if_neg (fun e=>h ((zL _ _).mp e)),decide_eq_false h,xY z l]
theorem xZ (l:List (Str×PyData)) (z:Str):lV (cD l) (.str z)=some ((l.find? fun p=>decide (p.1=z)).map (·.2)):=by
 show (if (cC cN (cD l)).isSome then some (lU cN (.inr z) (cD l)) else none)=_
 rw [qM,xY]
 rfl
theorem Cu {l:List (Str×PyData)} {z:Str} {d:PyData} (h:z∉l.map (·.1)):oN cN (.inr z) (.str z) d (cD l)=cD (l++[(z,d)]):=by
 unfold oN
 rw [if_neg,cD,cD,List.map_append]
 ·rfl
 ·rw [Bool.not_eq_true,List.any_eq_false]
  intro p hp
  obtain ⟨q,hq,rfl⟩:=List.mem_map.mp hp
  have:¬(cN (.str q.1)=some (.inr z)):=fun e=>h (List.mem_map.mpr ⟨q,hq,(zL _ _).mp e⟩)
  simpa using this
theorem Cv {l:List (Str×PyData)} {z:Str} {d:PyData} (h:z∉l.map (·.1)):putD (cD l) (.str z) d=some (cD (l++[(z,d)])):=by
 show (if (cC cN (cD l)).isSome then some (oN cN (.inr z) (.str z) d (cD l)) else none)=_
 rw [qM,Cu h]
 rfl
theorem Np {α:Type} (ps:List (Str×Str)) (g:Str×Str→α) (z:Str):((ps.map fun p=>(p.1,g p)).find? fun p=>decide (p.1=z)).map (·.2)=(ps.find? fun p=>decide (p.1=z)).map g:=by
 rw [List.find?_map,Option.map_map]
 rfl
theorem dJ {α:Type} {T:oU} {ft:FT} {fe:FE} {fs:En} {C:Ce} (D:α→PyData) (p:α→Bool) (g:α→PyData):∀{l:List α},(∀a∈l,∃ts,U5 T (D a)=some ts∧ft (ji ts++fs) C=some (p a,C)∧(p a=true→∃x e,fe (ji ts++fs) C=some (x,e,C)∧still x=.im (g a)))→
  fV T ft fe fs (l.map D) C=some ((l.filter p).map g,C)
 | [],_=>rfl
 | d::r,h=>by
  obtain ⟨ts,h1,h2,h3⟩:=h d List.mem_cons_self
  have ih:=dJ D p g (l:=r) fun d m=>h d (List.mem_cons_of_mem _ m)
  rw [List.map_cons]
  unfold fV
  simp only [h1]
  rw [h2]
  cases hp:p d with
  | true=>
   obtain ⟨x,e,h4,h5⟩:=h3 hp
   simp only [h4,h5,ih,List.filter_cons,hp,if_true,List.map_cons]
  | false=>
   simp only [ih,List.filter_cons,hp]
   rfl
end L2
namespace L2
open PySem PySem.Spec PyProof.Rows PySem.W
section
variable {prog:Program} {w:World} {A:Around} {E:Value→Shared→Prop} {R:Result→Shared→Prop} {s:Shared}
theorem JM {Q:Value→Shared→Prop} (h:Q (.ref s.heap.objs.size) { s with heap:=s.heap.push (tB w) }):wpAny (model prog w) A (newSet (.type "set")) Q E s:=by
 unfold newSet setsByText
 obtain ⟨h0,g0,d0,t0,o0⟩:=s
 refine wpAny_bind (wpAny_bind (wpAny_askSetting (wpAny_pure ?_)))
 dsimp only
 simp only [newObj]
 exact wpAny_bind (wpAny_alloc (wpAny_pure h))
theorem JN {elt target iter:Expr} {ifs:List Expr} {rest:List Comprehension} {scope:Scope} {pos:Pos} {it acc:Value} {env:Env} (h0:codeAny (model prog w) A (.compLoop (.SetComp elt (⟨target,iter,ifs,0⟩::rest) scope pos) 0 it acc env) R s)
  (h:wpAny (model prog w) A (pyIter it) (fun it' s'=>codeAny (model prog w) A (.compLoop (.SetComp elt (⟨target,iter,ifs,0⟩::rest) scope pos) 0 it' acc env) R s') (notedBy (model prog w) A env fun x s'=>R (.error x) s') s):
  codeAny (model prog w) A (.compStart (.SetComp elt (⟨target,iter,ifs,0⟩::rest) scope pos) 0 it acc env) R s:=by
 refine codeAny_of_tree (show wpAny _ A ((compStart (.SetComp elt (⟨target,iter,ifs,0⟩::rest) scope pos) 0 it acc env).onRaise (fun x=>do noteFrame x env; standAt theWindowsPlace)) _ _ s from wpAny_notedAt ?_)
 unfold compStart
 refine (show wpAny _ A (ask >>= _) _ _ s from wpAny_bind (wpAny_askSetting (wpAny_ite ?_)))
 split
 ·first
   | exact wpAny_bind (wpAny_pure (wpAny_pure ⟨rfl,h0⟩))
   | exact wpAny_pure ⟨rfl,h0⟩
 ·first
   | exact wpAny_bind (wpAny_rule (wpAny_bind (wpAny_standAt (wpAny_bind (wpAny_mono h (fun it' s' h'=>wpAny_pure ⟨rfl,h'⟩) fun _ _ x=>x)))))
   | exact wpAny_bind (wpAny_rule (show wpAny _ _ (standAt iter.pos >>= _) _ _ s from wpAny_bind (wpAny_standAt (wpAny_bind (wpAny_mono h (fun it' s' h'=>wpAny_pure ⟨rfl,h'⟩) fun _ _ x=>x)))))
variable {T:Type} [DecidableEq T] {knd:PySem.KeyKind prog w T}
theorem Cw {a:Addr} {k:T} {key:Value} {ks:List T} {Q:Value→Shared→Prop} (hk:knd.is k key=true) (hsc:key.scannable=true) (hS:pD knd s.heap a ks) (room:ks.length + 1 < scanBound)
  (h:∀h',Heap.SameBut a s.heap h'→pD knd h' a (kW ks k)→Q .none { s with heap:=h',toks:=s.toks + 1 }):wpAny (model prog w) A (call (.builtin "set.add") [.ref a,key]) Q E s:=by
 refine wpAny_call_entry F.slot_set_add hS.ty F.entry_set_add ?_ (F.args_set_add_2 _ _)
 unfold Builtin.«set.add» Builtin.Frozenset.oneOther
 simp only [List.isEmpty_nil,bind_assoc]
 unfold Builtin.Frozenset.addrOf setAdd
 refine wpAny_bind (wpAny_pure ?_)
 try dsimp only
 refine wpAny_bind (wpAny_pure ?_)
 try dsimp only
 refine wpAny_bind (wpAny_holding (wpAny_bind (knd.pyHash hk ?_)))
 refine Qj (knd:=knd) (s:={ s with toks:=s.toks + 1 }) hk hsc hS room fun _ h' hsb hS'=>?_
 exact (show wpAny _ _ (ret Value.none) _ _ _ from wpAny_pure ⟨_,rfl,h h' hsb hS'⟩)
end
theorem zM {env:Env} (elt gens scope pos):eval (.SetComp elt gens scope pos) env=comprehension (.SetComp elt gens scope pos) scope env (firstIterPos gens pos) (newSet (.type "set")) (firstAsync gens) (firstIter gens env):=rfl
section
variable {P:Program} {w:World} {T0:Type} [DecidableEq T0] (knd:PySem.KeyKind P w T0) (mk:T0→V)
noncomputable abbrev SO (a:Addr) (ks:List T0):HO:=.ext fun h=>pD knd h a ks
noncomputable def Nq (D:Addr) (te:TE):TM:=fun σ H Q=>te σ H fun y H1=>∃ks k,H1 D=some (SO knd D ks)∧y=mk k∧ks.length + 1 < scanBound∧Q (upd H1 D (SO knd D (kW ks k)))
theorem Sg {H:Hp} {h:Heap} {a:Addr} {ks:List T0} (x:pD knd h a ks):bW P w H h a (SO knd a ks):=
 ⟨x,let ⟨o,_,_,_,e,_⟩:=x; ⟨o,e⟩,fun _ _ y e=>y.at e⟩
noncomputable def tSC (K:PySem.W.Frag) (wi:TI) (T:oU) (ts:Bk→TT) (te:Bk→TE) (js:List Nat):TE:=fun σ H Q=>wi σ H fun J H1=>∀D,H1 D=none→∀b,Ei K T (ts b) (Nq knd mk D (te b)) (frees js σ) J (upd H1 D (SO knd D [])) (Q (.ref D))
end
section
variable {X:Cx} {T0:Type} [DecidableEq T0] {knd:PySem.KeyKind X.prog X.w T0} {mk:T0→V} {NT NF:List Str} {js:List Nat} {elt tg iter:Expr} {ifs:List Expr} {T:oU} {wi:TI} {ts:Bk→TT} {te:Bk→TE} {scope:Scope} {pos:Pos}
theorem Vh {D:Addr} {t:TE} (hk:∀k v,RelV (mk k) v→knd.is k v=true∧v.scannable=true) (he:PE X elt t):PM X (do let v ←eval elt X.env; standAt elt.pos; let _ ←call (.builtin "set.add") [.ref D,v]) (Nq knd mk D t):=by
 intro pins s σ H Q I h
 refine wpAny_bind (cI (he pins s σ H _ I h) fun v s1 aP=>?_)
 obtain ⟨y,H1,I1,r1,ks,k,hD,ey,hz,q⟩:=aP
 subst ey
 obtain ⟨hS,_,_⟩:=I1.hok D _ hD
 obtain ⟨k1,k2⟩:=hk _ _ r1
 refine wpAny_bind (wpAny_standAt (wpAny_bind (Cw k1 k2 hS hz fun h' same hS'=>?_)))
 refine wpAny_pure ⟨_,?_,q⟩
 exact kJ I1 (by rw [hD]; exact True.intro) same (let ⟨o,_,_,_,e,_⟩:=hS'; ⟨o,e⟩) (Sg knd hS')
theorem Vi {pins:List (Addr×Obj)} {σ:St} {s2:Shared} {H2:Hp} {cl:List (Str×Addr)} {it:Addr} {fp:List Addr} {tn:Nat→Heap→Prop} {J:It} {Q:Hp→Prop} {RR:Value→Addr→Result→Shared→Prop} {E:Value→Shared→Prop}
  (hk:∀k v,RelV (mk k) v→knd.is k v=true∧v.scannable=true) (B:jT X NT NF js scope) (tk:qg tg NT T) (hc:X.calm=true)
  (hin:∀b,Dr (X.bk (NT++NF) scope b) ifs (ts b)∧PE (X.bk (NT++NF) scope b) elt (te b))
  (q2:∀n c,cl.lookup n=some c→X.env.cells.lookup n=some c) (q3:∀y∈scope.names,y.2=.free→∃c,cl.lookup y.1=some c)
  (I2:Inv X pins σ H2 s2) (TT:Turn X.prog X.w X.K tg J fp it tn) (st2:tn 0 s2.heap) (f2:∀b∈fp,jg X pins H2 b)
  (q:∀b,Ei X.K T (ts b) (Nq knd mk s2.heap.objs.size (te b)) (frees js σ) J (upd H2 s2.heap.objs.size (SO knd s2.heap.objs.size [])) Q)
  (hR:∀C H' s' m,Inv X pins σ H' s'→jg X pins H' C→s'.heap.Ns C m→Q H'→RR (.ref s2.heap.objs.size) C (.ok .next) s'):
  wpAny (model X.prog X.w) X.A (newSet (.type "set")) (fun acc s₃=>wpAny (model X.prog X.w) X.A (newFunctionEnv scope X.env.globals cl [] X.env.qual none .none (some X.env)) (fun cenv s₄=>
   codeAny (model X.prog X.w) X.A (.compStart (.SetComp elt [⟨tg,iter,ifs,0⟩] scope pos) 0 (.ref it) acc { cenv with scope:=relabel scope X.env }) (RR acc cenv.locals) s₄) E s₃) E s2:=by
 refine JM ?_
 have hD:H2 s2.heap.objs.size=none:=I2.hok.fresh (Nat.le_refl _)
 have I3:Inv X pins σ (upd H2 s2.heap.objs.size (SO knd s2.heap.objs.size [])) { s2 with heap:=s2.heap.push (tB X.w) }:=
  I2.laid (t':=s2.toks) (fun b o e=>Heap.get?_push_of_some _ e) (Nat.le_refl _) (Sg knd (Uk (Heap.get?_push_size _ rfl)))
 have hsz:(s2.heap.push (tB X.w)).objs.size=s2.heap.objs.size + 1:=Heap.size_push ..
 refine wpAny_newFunctionEnv B.cell (by intro y hy; simp at hy) (fun h₁ hns₁ hsb₁=>?_) B.kind
 have OD:∀b∈fp,b < s2.heap.objs.size:=fun b hb=>by
  obtain ⟨o,e,_⟩:=TT.obj 0 _ st2 b hb
  exact Heap.lt_size e
 have f3:∀b∈fp,jg X pins (upd H2 s2.heap.objs.size (SO knd s2.heap.objs.size [])) b:=fun b hb=>⟨by rw [aJ (Nat.ne_of_lt (OD b hb))]; exact (f2 b hb).1,(f2 b hb).2⟩
 have keep:∀b o,(s2.heap.push (tB X.w)).get? b=some o→h₁.get? b=some o:=fun b o e=>hsb₁.extBut b o (Nat.ne_of_lt (Heap.lt_size e)) (Heap.get?_push_of_some _ e)
 have RL:∀b∈fp,b < (s2.heap.push (tB X.w)).objs.size:=fun b hb=>by have:=OD b hb; rw [hsz]; exact Nat.lt_succ_of_lt this
 have I4:=I3.blk (s1:={ s2 with heap:=h₁,toks:=s2.toks + ([]:List (Str×Value)).length }) B q2 q3 f3 RL hns₁ keep rfl I2.bare
 have RM:tn 0 h₁:=TT.keep 0 _ _ st2 fun b _ o e=>keep b o (Heap.get?_push_of_some _ e)
 obtain ⟨i1,i2⟩:=hin ⟨cl,(s2.heap.push (tB X.w)).objs.size,{ s2 with heap:=s2.heap.push (tB X.w) },upd H2 s2.heap.objs.size (SO knd s2.heap.objs.size []),fp⟩
 have loop:codeAny (model X.prog X.w) X.A (.compLoop (.SetComp elt [⟨tg,iter,ifs,0⟩] scope pos) 0 (.ref it) (.ref s2.heap.objs.size) (compEnvC scope cl (s2.heap.push (tB X.w)).objs.size X.env))
   (RR (.ref s2.heap.objs.size) (s2.heap.push (tB X.w)).objs.size) { s2 with heap:=h₁,toks:=s2.toks + ([]:List (Str×Value)).length }:=by
  refine uy (X:=X.blk (NT++NF) scope cl (s2.heap.push (tB X.w)).objs.size { s2 with heap:=s2.heap.push (tB X.w) } (upd H2 s2.heap.objs.size (SO knd s2.heap.objs.size [])) fp)
   (T:=T) (fs:=frees js σ) (done:=Q) rfl (Jj elt tg iter ifs scope pos _ _ _) rfl rfl rfl tk rfl B.nd hc (fun x hx=>lookup_relabel_local (B.tg x hx)) i1 (Vh (X:=X.bk (NT++NF) scope _) (knd:=knd) hk i2) TT (fun b hb=>?_) I4 RM (q _) fun H' s' σ' J' qd=>?_
  ·exact ⟨(f3 b hb).1,Nat.ne_of_lt (RL b hb),fun hb2=>by
    rcases List.mem_cons.mp (I3.qZ b hb2) with z | z
    ·exact (f3 b hb).2.1 z
    ·exact (f3 b hb).2.2.1 z,.inl hb,fun x c e=>(f3 b hb).2.2.2.2.1 x c (q2 x c e),fun p hp=>(nomatch (show p∈([]:List (Addr×Obj)) from hp))⟩
  ·obtain ⟨m,hn,_⟩:=J'.loc
   exact hR _ H' s' m (I3.K9 f3 J') (I3.yD (Nat.le_refl _) J'.free) hn qd
 exact JN loop (TT.self _ 0 _ _ _ RM loop)
theorem Xn (hk:∀k v,RelV (mk k) v→knd.is k v=true∧v.scannable=true) (B:jT X NT NF js scope) (tk:qg tg NT T) (hc:X.calm=true) (hi:PI X tg iter wi)
  (hin:∀b,Dr (X.bk (NT++NF) scope b) ifs (ts b)∧PE (X.bk (NT++NF) scope b) elt (te b))
  (hs:∀x,foldedSetIterable iter X.env x=pure x:=by intro _; rfl):PE X (.SetComp elt [⟨tg,iter,ifs,0⟩] scope pos) (tSC knd mk X.K wi T ts te js):=by
 intro pins s σ H Q I h
 obtain ⟨cl,hclos,q2,q3⟩:=kO (env:=X.env) (scope:=scope) fun y hy e=>I.ok.has y.1 (B.free y hy e)
 rw [zM]
 refine wpAny_comprehension_free (use:=none) rfl hs hclos B.kind B.names (cI (hi pins s σ H _ I h) fun v s1 h1=>cI h1 fun itv s2 aP=>?_)
 obtain ⟨it,fp,tn,J,H2,e,I2,TT,st2,f2,q⟩:=aP
 subst e
 refine Vi (Q:=fun H'=>Q (.ref s2.heap.objs.size) H') (RR:=fun acc C=>compPost (model X.prog X.w) X.A X.xe none (EP X pins σ Q) acc C) hk B tk hc hin q2 q3 I2 TT st2 f2 (q _ (I2.hok.fresh (Nat.le_refl _))) fun C H' s' m I' fC hn qd=>?_
 refine ⟨m,hn,fun h' sb=>⟨.ref s2.heap.objs.size,H',?_,rfl,qd⟩⟩
 exact I'.turned (t':=s'.toks) (fun b o hb e=>(sb.2 b hb).trans e) fC.1 fC.2.1 fC.2.2.2.1 fC.2.2.2.2.1 fC.2.2.2.2.2
end
noncomputable def Nr {P:Program} {w:World} (t:TE):TE:=fun σ H Q=>t σ H fun x H2=>∃D ks,x=.ref D∧H2 D=some (SO (PySem.strKind P w) D ks)∧ks.length < 64∧∀(D':Addr) (ns':List Str),H2 D'=none→ns'.Perm ks→sortedS ns'=true→Q (.ref D') (upd H2 D' (.lst (ns'.map V.str)))
theorem Nt {X:Cx} {e:Expr} {t:TE} {p1 pos1:Pos} (hc:X.calm=true) (hl:PE X e t) (g1:Gl X "sorted") (m1:X.mg "sorted"=none)
  (he:starEach [e] X.env=(false,eval e X.env)::starEach [] X.env:=by rfl) (hpl:(backTo pos1 (starEach [] X.env)).any (·.1)=false:=by rfl):PE X (.Call (.Name "sorted" p1) [e] [] pos1) (Nr (P:=X.prog) (w:=X.w) t):=by
 intro pins s σ H Q I h
 refine wpAny_Call_Name_kw (kE I g1 m1 (u:=.builtin "sorted") rfl (PyProof.Rows.callWith_builtin1 ?_ he hpl))
 rw [he]
 show wpAny _ _ (spliced ((false,eval e X.env)::backTo pos1 (starEach [] X.env))) _ _ s
 refine Calls.spliced_cons (cI (hl pins s σ H _ I h) fun v s1 ⟨y,H1,I1,r1,D,ks,ey,hD,h64,q⟩=>Calls.spliced_nil ?_)
 subst ey
 cases r1
 obtain ⟨⟨o,es,ep,t,ho,ex,hd,⟨ks',ek,pk⟩,hb,hf,tb⟩,_,_⟩:=I1.hok D _ hD
 obtain ⟨e1,e2⟩:=Ma ek
 have few:es.size < 64:=by
  rw [←Array.length_toList,ek.len,pk.length_eq]
  omega
 refine Ey (Ok:=fun out=>∃ns',StrsAre out ns'∧ns'.Perm ks∧sortedS ns'=true) (I1.ok.hd hc) ⟨o,ho,ex,hd,hf,tb⟩ few (fun us pm B s2 a n P E' ho' hp=>?_) fun D h' d tk c out ok ge kk gD=>?_
 ·have hS:StrsAre us (us.map strOf):=strsAre_map us fun v hv=>e2 v (pm.mem_iff.mp hv)
  refine list_sort_treeK strKind_oneLt ho' hS.keysOf (fun v1 v2 rest e=>keyKind_strs (by rw [←e]; exact hS)) (by rw [pm.length_eq,List.length_map,Array.length_toList]; exact few) fun st hp1 hp2=>?_
  obtain ⟨ss',b1,b2,b3⟩:=sorted_out_str hS hp1 hp2
  exact hp _ ⟨ss',b1,b2.trans ((pm.map strOf).trans (by rw [e1]; exact pk)),b3⟩
 ·obtain ⟨ns',a1,a2,a3⟩:=ok
  have hz:ns'.length≤sizeLine:=by
   rw [a2.length_eq,sizeLine_eq]
   omega
  exact ⟨.ref D,_,(I1.laid (o:=.lst (ns'.map V.str)) (t':=tk) kk ge ⟨by rw [List.length_map]; exact hz,out.toList,c,xx a1,by simpa [seqObj] using gD⟩).drew d,rfl,q D ns' (I1.hok.fresh ge) a2 a3⟩
end L2
namespace L2
open PySem PySem.Spec PyProof.Rows PySem.W
noncomputable def Xo (fi:FI) (T:oU) (ft:FT) (fe:FE) (js:List Nat):FE:=fun env C=>match fi env C with
 | some (its,e1,C1)=>match fV T ft fe (frB js e1) its C1 with
  | some (ys,C2)=>match qH ys with
   | some l=>some (.ow (.list l),env,C2)
   | none=>none
  | none=>none
 | none=>none
theorem QV {P:Program} {w:World} {K:PySem.W.Frag} {fi:FI} {T:oU} {ft:FT} {fe:FE} {js:List Nat}:∀σ H Q,tE K (Xo fi T ft fe js) σ H Q→Nr (P:=P) (w:=w) (tSC (PySem.strKind P w) V.str K (tI K true fi) T (fun _=>mO K ft) (fun _=>tE K fe) js) σ H Q:=by
 rintro σ H Q ⟨Z,Θ,env,C,res,env',C',S,hf,q⟩
 unfold Xo at hf
 split at hf
 case h_2=>cases hf
 rename_i its e1 C1 h1
 split at hf
 case h_2=>cases hf
 rename_i ys C2 h2
 split at hf
 case h_2=>cases hf
 rename_i l hs
 cases hf
 unfold qH at hs
 split at hs
 case isFalse=>cases hs
 rename_i hl
 split at hs
 case h_2=>cases hs
 rename_i ns hns
 cases hs
 have hys:=Cg hns
 subst hys
 rw [List.length_map] at hl
 refine ⟨Z,Θ,env,C,its,e1,C1,S,h1,fun J H1 k1 f1 S1 it D hD b=>?_⟩
 have O1:=S1.fz (nq js e1)
 have it':wC (aK Z Θ e1 σ) Θ H1 J its:=it
 let PB:=aK (lA D Z (nY js e1) σ) Θ [] []
 have BK:∀a,a∈PB ↔ a=D∨a∈aK Z Θ (nY js e1) σ:=fun a=>eV (js:=js) rfl
 refine ⟨fun i m H2=>m=its.length - i∧i≤its.length∧∃(acc rest:List Str) (C2:Ce),bK Θ H1 H2∧dX Θ C2 H2∧H2 D=some (SO (PySem.strKind P w) D (dedup acc))∧fV T ft fe (frB js e1) (its.drop i) C2=some (rest.map .str,C')∧acc++rest=ns,
  ⟨its.length,rfl,Nat.zero_le _,[],ns,C1,bK.upd hD,⟨S1.cell.len,fun n b ns e2 e3=>?_⟩,aL,h2,rfl⟩,?_⟩
 ·have:=S1.cell.at_ n b ns e2 e3
  rw [aJ (bz this hD)]
  exact this
 rintro i m H2 ⟨rfl,hi,acc,rest,Ci,ki,ci,hDi,hc,ea⟩
 have Xd:aQ (er (aK Z Θ e1 σ) H1) (er PB H2):=fB ki S1.G7 fun b m=>by
  rcases (BK b).mp m with rfl | m
  ·exact .inr hD
  ·exact .inl ((nq js e1).sub b m)
 have Xe:Sm K (lA D Z (nY js e1) σ) Θ (ji []++frB js e1) Ci (([]:List V).map some++frees js σ) H2:=O1.blk hD ki ⟨_,hDi,fun _ z=>nomatch z⟩ ci (show eY _ [] [] from rfl)
 have MP:∀a∈PB,H2 a≠none:=fun a m=>by
  have:=Xe.yW a ((eV (js:=js) (lz (env:=ji []++frB js e1) pH)).mpr ((BK a).mp m))
  exact this
 obtain ⟨U3,U4⟩:=it' i H2 PB Xd (yX ki) MP
 have few:acc.length + rest.length < 64:=by
  rw [←List.length_append,ea]
  exact hl
 have acJ:=Jv acc
 cases hd:its[i]? with
 | none=>
  have hi2:i=its.length:=by
   have:=List.getElem?_eq_none_iff.mp hd
   omega
  rw [hi2,List.drop_length] at hc
  have hr:rest=[]:=by
   cases rest with
   | nil=>rfl
   | cons x r=>cases hc
  subst hr
  cases hc
  rw [List.append_nil] at ea
  subst ea
  refine .inl ⟨U4 hi2,D,dedup acc,rfl,hDi,by omega,fun D' ns' hn p hp=>?_⟩
  have kk:=k1.trans ki
  rw [U9 p hp]
  exact q _ _ (kk.trans (bK.upd hn)) (Fz.refl _) ((tR (S.go kk ci) (Mf _) hn).from kk)
 | some d=>
  have hlt:i < its.length:=(List.getElem?_eq_some_iff.mp hd).1
  have ed:its.drop i=d::its.drop (i + 1):=by
   rw [List.drop_eq_getElem_cons hlt]
   obtain ⟨_,e⟩:=List.getElem?_eq_some_iff.mp hd
   rw [e]
  rw [ed] at hc
  unfold fV at hc
  obtain ⟨go,yl⟩:=U3 d hd
  refine .inr ⟨go,fun x H3 y=>?_⟩
  obtain ⟨s3,r3⟩:=yl x H3 y
  split at hc
  case h_2=>cases hc
  rename_i ts ht
  obtain ⟨vs,tv,rvs⟩:=MN (K:=K) ht r3 (sE _ _)
  refine ⟨vs,tv,?_⟩
  have k3:bK Θ H1 H3:=ki.trans (bK.of s3)
  have JH:H3 D=some (SO (PySem.strKind P w) D (dedup acc)):=s3 _ _ hDi
  have c3:dX Θ Ci H3:=⟨ci.len,fun n b ns e2 e3=>s3 _ _ (ci.at_ n b ns e2 e3)⟩
  have SB:Sm K (lA D Z (nY js e1) σ) Θ (ji ts++frB js e1) Ci (vs.map some++frees js σ) H3:=O1.blk hD k3 ⟨_,JH,fun _ z=>nomatch z⟩ c3 rvs
  have wF:D∉Θ:=fun m=>(S1.cell.dom D m).ne hD
  split at hc
  ·rename_i Ct MT
   refine ⟨_,Θ,_,Ci,false,Ct,SB,MT,fun H4 k4 S4=>vZ ⟨its.length - (i + 1),by omega,rfl,hlt,acc,rest,Ct,k3.trans k4,S4.cell,k4.keep _ _ JH wF,hc,ea⟩⟩
  ·rename_i Ct MT
   split at hc
   case h_2=>cases hc
   rename_i xr eB CB hfe
   split at hc
   case h_2=>cases hc
   rename_i yd Xf
   split at hc
   case h_2=>cases hc
   rename_i zs Cz hzs
   cases rest with
   | nil=>cases hc
   | cons z rest=>
    have hc':yd::zs=PyData.str z::rest.map .str∧Cz=C':=by
     injection hc with hc
     injection hc with hc1 hc2
     exact ⟨hc1,hc2⟩
    obtain ⟨hc1,hc2⟩:=hc'
    injection hc1 with hc1 hc3
    subst hc1 hc2 hc3
    refine ⟨_,Θ,_,Ci,true,Ct,SB,MT,fun H4 k4 S4=>wg ⟨_,Θ,_,Ct,xr,eB,CB,S4,hfe,fun y H5 k5 f5 R5=>?_⟩⟩
    obtain ⟨S5,r5⟩:=R5.lW Xf
    have Xg:=k5.keep _ _ (k4.keep _ _ JH wF) wF
    rw [List.length_cons] at few
    refine ⟨dedup acc,z,Xg,r5,by unfold scanBound; omega,its.length - (i + 1),by omega,rfl,hlt,acc++[z],rest,CB,?_,?_,by rw [Es]; exact aL,hzs,by rw [←ea,List.append_assoc]; rfl⟩
    ·have kk:=(k3.trans k4).trans k5
     refine ⟨fun a o ha na=>?_,fun a ha=>?_⟩
     ·rw [aJ (bz ha hD)]
      exact kk.keep _ _ ha na
     ·by_cases z:a=D
      ·subst z; rw [aL]; exact Option.some_ne_none _
      ·rw [aJ z]; exact kk.dom a ha
    ·refine ⟨S5.cell.len,fun n b ns e2 e3=>?_⟩
     rw [aJ]
     ·exact S5.cell.at_ n b ns e2 e3
     ·intro z
      subst z
      exact wF (List.mem_of_getElem? e2)
  ·cases hc
theorem Xp {X:Cx} {NT NF:List Str} {js:List Nat} {elt tg iter:Expr} {ifs:List Expr} {T:oU} {fi:FI} {ft:FT} {fe:FE} {scope:Scope} {pos p1 pos1:Pos} (B:jT X NT NF js scope) (tk:qg tg NT T) (hc:X.calm=true) (g1:Gl X "sorted") (m1:X.mg "sorted"=none) (hi:PI X tg iter (tI X.K true fi))
  (hin:∀b,Dr (X.bk (NT++NF) scope b) ifs (mO X.K ft)∧PE (X.bk (NT++NF) scope b) elt (tE X.K fe))
  (hs:∀x,foldedSetIterable iter X.env x=pure x:=by intro _; rfl)
  (he:starEach [.SetComp elt [⟨tg,iter,ifs,0⟩] scope pos] X.env=(false,eval (.SetComp elt [⟨tg,iter,ifs,0⟩] scope pos) X.env)::starEach [] X.env:=by rfl) (hpl:(backTo pos1 (starEach [] X.env)).any (·.1)=false:=by rfl):
  PE X (.Call (.Name "sorted" p1) [.SetComp elt [⟨tg,iter,ifs,0⟩] scope pos] [] pos1) (tE X.K (Xo fi T ft fe js)):=
 (Nt hc (Xn (knd:=PySem.strKind X.prog X.w) (mk:=V.str) (fun k v r=>by obtain ⟨t,rfl⟩:=r; exact ⟨PySem.strKind_is _ _ _ _,rfl⟩) B tk hc hi hin hs) g1 m1 he hpl).weak QV
end L2
namespace L2
open PySem PySem.Spec PyProof.Rows PySem.W
section
variable {X:Cx} {tg:Expr}
noncomputable def Nu (f g:FB):FI:=fun env C=>match bCons f (bCons g bNil) env C with
 | some ([.int i,.int j],_,C1)=>if -(2 ^ 62)≤i∧i < 2 ^ 62∧-(2 ^ 62)≤j∧j < 2 ^ 62 then some (iT i (j - i).toNat,env,C1) else none
 | _=>none
theorem JP {bb:Bool} {a b:Expr} {f g:FB} {p pos:Pos} (hg:Gl X "range") (hm:X.mg "range"=none) (ha:PA X [a,b] (RT X.K (bCons f (bCons g bNil)))) (hs:starEach [a,b] X.env=[(false,eval a X.env),(false,eval b X.env)]:=by rfl) (hs2:starEach [b] X.env=[(false,eval b X.env)]:=by rfl):PI X tg (.Call (.Name "range" p) [a,b] [] pos) (tI X.K bb (Nu f g)):=
 (Iv hg hm ha hs hs2).weak fun σ H R aP=>by
  obtain ⟨Z,Θ,env,C,its,env',C',S,hf,q⟩:=aP
  unfold Nu at hf
  split at hf
  ·rename_i i j e1 C1 h1
   split at hf
   ·rename_i hj
    cases hf
    refine ⟨Z,Θ,env,C,[.int i,.int j],e1,C',S,h1,fun vs H1 k f S1 b1=>?_⟩
    cases b1 with
    | cons b1 b2=>
     cases b2 with
     | cons b2 b3=>
      cases b3
      exact ⟨i,j,by rw [show _=V.int i from b1,show _=V.int j from b2],hj,q _ H1 k (Fz.refl _) (S.go k S1.cell) (BJ i (j - i).toNat)⟩
   ·cases hf
  ·cases hf
end
end L2
namespace L2
open PySem PySem.Spec PyProof.Rows PySem.W
theorem a_t0 {α:Type} (x:α) (r:List α):iD (x::r) 0=some x:=eO (j:=0) rfl
theorem a_t1 {α:Type} (a x:α) (r:List α):iD (a::x::r) 1=some x:=eO (j:=1) rfl
theorem a_t2 {α:Type} (a b x:α) (r:List α):iD (a::b::x::r) 2=some x:=eO (j:=2) rfl
theorem a_t3 {α:Type} (a b c x:α) (r:List α):iD (a::b::c::x::r) 3=some x:=eO (j:=3) rfl
theorem a_t4 {α:Type} (a b c d x:α) (r:List α):iD (a::b::c::d::x::r) 4=some x:=eO (j:=4) rfl
theorem a_t5 {α:Type} (a b c d e x:α) (r:List α):iD (a::b::c::d::e::x::r) 5=some x:=eO (j:=5) rfl
theorem a_t6 {α:Type} (a b c d e f x:α) (r:List α):iD (a::b::c::d::e::f::x::r) 6=some x:=eO (j:=6) rfl
theorem e_bin (op:PyData→PyData→Option Vl) (fa fb:FB) (env:En) (C:Ce):aC op fa fb env C=(fa env C).bind fun p=>(fb p.2.1 p.2.2).bind fun q=>(op p.1 q.1).bind fun r=>some (r,rst r env q.2.1,q.2.2):=by
 unfold aC
 rcases h:fa env C with _ | ⟨x,e1,C1⟩
 ·rfl
 ·rcases h2:fb e1 C1 with _ | ⟨y,e2,C2⟩
  ·simp only [Option.bind_some,h2]; rfl
  ·simp only [Option.bind_some,h2]
   cases op x y <;> rfl
theorem e_dat (f:FE) (env:En) (C:Ce):au f env C=(f env C).bind fun p=>(dat p.1).map fun d=>(d,p.2.1,p.2.2):=by
 unfold au
 rcases h:f env C with _ | ⟨x,e1,C1⟩ <;> rfl
theorem e_bv (i:Nat) (env:En) (C:Ce):aA i env C=(env[i]?).bind fun o=>o.bind fun x=>(dat x).map fun d=>(d,env,C):=by
 unfold aA
 rcases env[i]? with _ | (_ | x) <;> rfl
theorem e_and (f g:FT) (env:En) (C:Ce):ir f g env C=(f env C).bind fun p=>if p.1 then g env p.2 else some (false,p.2):=by
 unfold ir
 rcases h:f env C with _ | ⟨_ | _,D⟩ <;> rfl
theorem e_or (f g:FT) (env:En) (C:Ce):wB f g env C=(f env C).bind fun p=>if p.1 then some (true,p.2) else g env p.2:=by
 unfold wB
 rcases h:f env C with _ | ⟨_ | _,D⟩ <;> rfl
theorem e_not (f:FT) (env:En) (C:Ce):qy f env C=(f env C).map fun p=>(!p.1,p.2):=by
 unfold qy
 rcases h:f env C with _ | ⟨b,D⟩ <;> rfl
theorem e_if (c:FT) (f g:FS) (env:En) (C:Ce):lq c f g env C=(c env C).bind fun p=>if p.1 then f env p.2 else g env p.2:=by
 unfold lq
 rcases h:c env C with _ | ⟨_ | _,D⟩ <;> rfl
theorem e_ifv (c:FT) (f g:FE) (env:En) (C:Ce):uP c f g env C=(c env C).bind fun p=>if p.1 then f env p.2 else g env p.2:=by
 unfold uP
 rcases h:c env C with _ | ⟨_ | _,D⟩ <;> rfl
theorem Sh (op op':PyData→PyData→Option Vl) (fa fb fc:FB) {env e1 e2 e3:En} {C C1 C2:Ce} {x y z:PyData} {a b:Bool} (h1:fa env C=some (x,e1,C1)) (h2:fb e1 C1=some (y,e2,C2)) (h3:op x y=some (.im (.bool a))) (h4:fc e2 C2=some (z,e3,C2)) (h5:op' y z=some (.im (.bool b))):Bo op op' fa fb fc env C=some (.im (.bool (a&&b)),env,C2):=by
 unfold Bo
 simp only [h1,h2,h3]
 cases a with
 | false=>rfl
 | true=>simp only [h4,h5]; rfl
theorem r_ow (d:PyData) (e f:En):rst (.ow d) e f=f:=rfl
theorem r_bool (b:Bool) (e f:En):rst (.im (.bool b)) e f=e:=rfl
theorem r_int (i:Int) (e f:En):rst (.im (.int i)) e f=e:=rfl
theorem r_str (z:Str) (e f:En):rst (.im (.str z)) e f=e:=rfl
theorem r_tl (l r:List PyData) (e f:En):rst (.im (.tuple (.list l::r))) e f=f:=rfl
theorem add_int (i j:Int):aX (.int i) (.int j)=some (.im (.int (i + j))):=rfl
theorem sub_int (i j:Int):xK (.int i) (.int j)=some (.im (.int (i - j))):=rfl
theorem le_int (i j:Int):rC (.int i) (.int j)=some (.im (.bool (decide (i≤j)))):=rfl
theorem lt_int (i j:Int):zf (.int i) (.int j)=some (.im (.bool (decide (i < j)))):=rfl
theorem ge_int (i j:Int):Qq (.int i) (.int j)=some (.im (.bool (decide (j≤i)))):=rfl
theorem gt_int (i j:Int):Ml (.int i) (.int j)=some (.im (.bool (decide (j < i)))):=rfl
theorem eq_int (i j:Int):jF (.int i) (.int j)=some (.im (.bool (i==j))):=rfl
theorem eq_bool (a b:Bool):jF (.bool a) (.bool b)=some (.im (.bool (a==b))):=rfl
theorem ne_bool (a b:Bool):tD (.bool a) (.bool b)=some (.im (.bool (!(a==b)))):=rfl
theorem ne_int (i j:Int):tD (.int i) (.int j)=some (.im (.bool (!(i==j)))):=rfl
theorem len_l (ds:List PyData):nu [.list ds]=some (.im (.int ds.length)):=rfl
theorem len_t (ds:List PyData):nu [.tuple ds]=some (.im (.int ds.length)):=rfl
theorem ix_t (ds:List PyData) (i:Int):aZ (.tuple ds) (.int i)=(iD ds i).map .im:=rfl
theorem ix_l (ds:List PyData) (i:Int):aZ (.list ds) (.int i)=(iD ds i).map .im:=rfl
theorem add_l {xs ys:List PyData} (h:xs.length + ys.length≤1000000):aX (.list xs) (.list ys)=some (.ow (.list (xs++ys))):=if_pos h
theorem Cy {xs ys:List PyData} (h:xs.length + ys.length≤1000000):aX (.tuple xs) (.tuple ys)=some (.im (.tuple (xs++ys))):=by
 unfold aX
 cases xs with
 | nil=>rfl
 | cons x xs=>exact if_pos h
theorem oY {ds:List PyData} {i:Nat} {d:PyData} (h:ds[i]?=some d):aZ (.tuple ds) (.int i)=some (.im d):=by
 simp only [aZ,Qt,eO h,Option.map_some]
theorem h_ix0 (h:cM):aZ (bQ h) (.int 0)=some (.im (.tuple (h.ps.map jb))):=oY (i:=0) rfl
theorem h_ix1 (h:cM):aZ (bQ h) (.int 1)=some (.im (.tuple (h.mj.map iZ))):=oY (i:=1) rfl
theorem h_ix2 (h:cM):aZ (bQ h) (.int 2)=some (.im (.tuple (h.leaves.map bN))):=oY (i:=2) rfl
theorem h_ix3 (h:cM):aZ (bQ h) (.int 3)=some (.im (.tuple (h.rules.map oX))):=oY (i:=3) rfl
theorem k_ix0 (r:lZ):aZ (iZ r) (.int 0)=some (.im (.int r.1)):=oY (i:=0) rfl
theorem k_ix1 (r:lZ):aZ (iZ r) (.int 1)=some (.im (.str r.2.1)):=oY (i:=1) rfl
theorem k_ix2 (r:lZ):aZ (iZ r) (.int 2)=some (.im (.int r.2.2.1)):=oY (i:=2) rfl
theorem k_ix3 (r:lZ):aZ (iZ r) (.int 3)=some (.im (.str r.2.2.2.1)):=oY (i:=3) rfl
theorem k_ix4 (r:lZ):aZ (iZ r) (.int 4)=some (.im (.int r.2.2.2.2.1)):=oY (i:=4) rfl
theorem k_ix5 (r:lZ):aZ (iZ r) (.int 5)=some (.im (.int r.2.2.2.2.2)):=oY (i:=5) rfl
theorem CG {α:Type} {m:Int} (h0:-1000000≤m) (h1:m≤1000000) (a b:α):(if -(2 ^ 62)≤m∧m < 2 ^ 62 then a else b)=a:=if_pos (by omega)
theorem cF {k n:Nat} {body:FS} {xs:List Vl} {C C1:Ce} {r:Vl} (en:En) (hk:xs.length=k) (he:xs.map some++List.replicate (n - xs.length) none=en) (h:(body en C).map (fun p=>(p.1,p.2.2))=some (.rt r,C1)) (hr:xQ C.length r=true) (hC:C1.length=C.length):fN k n body xs C=some (r,C1):=by
 unfold fN
 rw [if_pos hk,he]
 cases hb:body en C with
 | none=>rw [hb] at h; cases h
 | some p=>
  rw [hb] at h
  obtain ⟨fl,e1,C2⟩:=p
  have h:(fl,C2)=(Fl.rt r,C1):=Option.some.inj h
  injection h with h1 h2
  subst h1 h2
  simp only [hr,if_true,Cm hC]
end L2
namespace L2
open PySem PySem.Spec PyProof.Rows PySem.W
theorem letters (k:Int) (h0:0≤k) (h1:k < 26):Qt (.str abc) (.int k)=some (.str ⟨#[97 + k.toNat]⟩):=by
 have e:=Vc h0 h1
 have hl:abc.length≤LIM:=by decide +kernel
 simp only [Qt]
 rw [if_pos hl,e]
 rfl
theorem vm:∀zs:List Str,strsOf (zs.map PyData.str)=some zs
 | []=>rfl
 | z::zs=>by
  show (match strsOf (zs.map PyData.str) with | some t=>some (z::t) | none=>none)=_
  rw [vm zs]
theorem noLs_strs:∀zs:List Str,d8 (zs.map PyData.str)=true
 | []=>rfl
 | z::zs=>by
  show (true&&d8 (zs.map PyData.str))=true
  rw [noLs_strs zs]
  rfl
theorem pL:∀cs:List Nat,d8 (cs.map fun c=>PyData.str ⟨#[c]⟩)=true
 | []=>rfl
 | c::cs=>by
  show (true&&d8 (cs.map fun c=>PyData.str ⟨#[c]⟩))=true
  rw [pL cs]
  rfl
theorem qN:∀cs:List Nat,strsOf (cs.map fun c=>PyData.str ⟨#[c]⟩)=some (cs.map fun c=>(⟨#[c]⟩:Str))
 | []=>rfl
 | c::cs=>by
  show (match strsOf (cs.map fun c=>PyData.str ⟨#[c]⟩) with | some t=>some (_::t) | none=>none)=_
  rw [qN cs]
  rfl
theorem JQ:(Str.ofString "").length=0:=by decide +kernel
noncomputable abbrev hEn (b:Nat) (zs:List Str) (ps:List (Str×Str)) (own:List Str) (rk:List lZ) (lv:List cR) (ru:List (PyData×PyData)) (v7 v8 v9 v10 v11 fM yc vo vp sU sV ZP:Option Vl):En:=
 [some (.ce b),some (.im (.list (zs.map .str))),some (.ow (.list (ps.map jb))),some (.ow (.list (own.map .str))),some (.ow (.list (rk.map iZ))),some (.ow (.list (lv.map bN))),some (.ow (.dict ru)),v7,v8,v9,v10,v11,fM,yc,vo,vp,sU,sV,ZP]
theorem rst_same (r:Vl) (e:En):rst r e e=e:=by
 cases r <;> simp [rst]
theorem QW {ns:List Int} {i:Nat} {d:PyData} (h:(ns.map PyData.int)[i]?=some d):∃x,d=.int x∧ns[i]?=some x∧x∈ns∧i < ns.length:=by
 rw [List.getElem?_map] at h
 cases hx:ns[i]? with
 | none=>rw [hx] at h; cases h
 | some x=>
  rw [hx] at h
  exact ⟨x,(Option.some.inj h).symm,rfl,List.mem_of_getElem? hx,(List.getElem?_eq_some_iff.mp hx).1⟩
theorem take_snoc {ns:List Int} {i:Nat} {x:Int} (h:ns[i]?=some x):ns.take (i + 1)=ns.take i++[x]:=by
 rw [List.take_add_one,h]
 rfl
theorem ye:∀ss:List xX,d8 (ss.map vf)=true
 | []=>rfl
 | s::ss=>by
  show (true&&d8 (ss.map vf))=true
  rw [ye ss]
  rfl
theorem yf:∀rs:List Cq,d8 (rs.map oX)=true
 | []=>rfl
 | r::rs=>by
  show ((true&&(true&&(d8 (r.2.2.map vf)&&true)))&&d8 (rs.map oX))=true
  rw [yf rs,ye]
  rfl
theorem Nv {k n:Nat} {body:FS} {xs:List Vl} {en e1:En} {C C1:Ce} {r:Vl} (hk:xs.length=k) (he:xs.map some++List.replicate (n - xs.length) none=en) (h:body en C=some (.rt r,e1,C1)) (hr:xQ C.length r=true) (hC:C1.length=C.length):fN k n body xs C=some (r,C1):=by
 unfold fN
 rw [if_pos hk,he,h]
 simp only [hr,if_true,Cm hC]
theorem rM:∀zs:List Str,(zs.map PyData.str).all d7=true
 | []=>rfl
 | z::zs=>by
  rw [List.map_cons,List.all_cons,rM zs]
  rfl
theorem in_strs (z:Str) (zs:List Str):jY (.str z) (.list (zs.map .str))=some (.im (.bool (decide (z∈zs)))):=by
 have:inB (.str z) (.list (zs.map .str))=some (inD (.str z) (zs.map .str)):=if_pos (by rw [rM]; rfl)
 unfold jY
 rw [this,qK]
 rfl
theorem eq_strs (x z:Str):jF (.str x) (.str z)=some (.im (.bool (decide (x=z)))):=by
 have:(x==z)=decide (x=z):=by rw [Bool.eq_iff_iff]; simp
 show some (Vl.im (.bool (x==z)))=_
 rw [this]
theorem ne_strs (x z:Str):tD (.str x) (.str z)=some (.im (.bool (!decide (x=z)))):=by
 have:(x==z)=decide (x=z):=by rw [Bool.eq_iff_iff]; simp
 show some (Vl.im (.bool (!(x==z))))=_
 rw [this]
noncomputable def bG (q:List (Str×Str)):List (Str×PyData):=q.map fun p=>(p.1,.str p.2)
theorem CJ:∀q,Ft (cD (bG q))=true
 | []=>rfl
 | x::q=>by
  show (true&&Ft (cD (bG q)))=true
  rw [CJ q]
  rfl
theorem qO (q:List (Str×Str)) (z:Str):lV (cD (bG q)) (.str z)=some ((cQ q z).map .str):=by
 rw [xZ]
 unfold bG cQ
 rw [Np,Option.map_map]
 rfl
theorem noLs_ints:∀l:List Int,d8 (l.map PyData.int)=true
 | []=>rfl
 | x::l=>by
  show (true&&d8 (l.map PyData.int))=true
  rw [noLs_ints l]
  rfl
theorem FQ:∀(n:Nat),BP [.list (List.replicate n (.bool true))]=some (.im (.bool true))∧d8 (List.replicate n (.bool true))=true:=by
 intro n
 have h:boolsOf (List.replicate n (.bool true))=some (List.replicate n true)∧d8 (List.replicate n (.bool true))=true:=by
  induction n with
  | zero=>exact ⟨rfl,rfl⟩
  | succ n ih=>
   rw [List.replicate_succ,List.replicate_succ]
   refine ⟨?_,?_⟩
   ·unfold boolsOf
    rw [ih.1]
   ·show (true&&d8 (List.replicate n (.bool true)))=true
    rw [ih.2]
    rfl
 refine ⟨?_,h.2⟩
 unfold BP
 simp only [h.1,Option.map_some]
 congr 3
 rw [List.all_eq_true]
 intro b hb
 exact (List.mem_replicate.mp hb).2
theorem yg:∀ps:List (Str×Str),iQ (ps.map jb)=true
 | []=>rfl
 | p::ps=>by show (true&&iQ (ps.map jb))=true; rw [yg ps]; rfl
theorem yh:∀ps:List lZ,iQ (ps.map iZ)=true
 | []=>rfl
 | p::ps=>by show (true&&iQ (ps.map iZ))=true; rw [yh ps]; rfl
theorem vq:∀ps:List cR,iQ (ps.map bN)=true
 | []=>rfl
 | p::ps=>by show (true&&iQ (ps.map bN))=true; rw [vq ps]; rfl
theorem yj:∀ps:List xX,iQ (ps.map vf)=true
 | []=>rfl
 | p::ps=>by show (true&&iQ (ps.map vf))=true; rw [yj ps]; rfl
theorem ym:∀rs:List Cq,iQ (rs.map oX)=true
 | []=>rfl
 | r::rs=>by
  show ((true&&(true&&(iQ (r.2.2.map vf)&&true)))&&iQ (rs.map oX))=true
  rw [ym rs,yj]
  rfl
theorem JR (h:cM):Ez (bQ h)=true:=by
 show (iQ (h.ps.map jb)&&(iQ (h.mj.map iZ)&&(iQ (h.leaves.map bN)&&(iQ (h.rules.map oX)&&true))))=true
 rw [yg,yh,vq,ym]
 rfl
theorem vz {zs:List Str} {k:Int} (h0:0≤k) (h1:k < zs.length):∃z,z∈zs∧zs[k.toNat]?=some z∧iD (zs.map PyData.str) k=some (.str z):=by
 obtain ⟨x,e1,e2⟩:=Nk (xs:=zs.map PyData.str) h0 (by rw [List.length_map]; exact h1)
 rw [List.getElem?_map] at e2
 cases hz:zs[k.toNat]? with
 | none=>rw [hz] at e2; cases e2
 | some z=>
  rw [hz] at e2
  cases e2
  exact ⟨z,List.mem_of_getElem? hz,rfl,e1⟩
theorem Vj {α:Type} {f:α→PyData} {l:List α} {i:Nat} {d:PyData} (h:(l.map f)[i]?=some d):∃x,l[i]?=some x∧d=f x:=by
 rw [List.getElem?_map] at h
 cases hx:l[i]? with
 | none=>rw [hx] at h; cases h
 | some x=>rw [hx] at h; exact ⟨x,rfl,(Option.some.inj h).symm⟩
noncomputable def Bf (L:Nat) (C:Ce) (b k:Nat):Prop:=C.length=L∧∃x y z:Int,C[b]?=some [x,y,z]∧0≤x∧0≤y∧y≤3000000000∧0≤z∧z + k≤900000
theorem Bf.mono {L:Nat} {C:Ce} {b k j:Nat} (h:Bf L C b k) (hj:j≤k):Bf L C b j:=by
 obtain ⟨l,x,y,z,h1,h2,h3,h4,h5,h6⟩:=h
 exact ⟨l,x,y,z,h1,h2,h3,h4,h5,by omega⟩
theorem Bf.dec {L:Nat} {C:Ce} {b k:Nat} (h:Bf L C b (k + 1)):Bf L C b k:=h.mono (Nat.le_succ k)
theorem Bf.eq {L:Nat} {C C':Ce} {b b' k k':Nat} (h:Bf L C b k) (h':Bf L C' b' k'):C'.length=C.length:=h'.1.trans h.1.symm
inductive HE (b:Nat) (zs:List Str) (ps:List (Str×Str)) (own:List Str) (rk:List lZ) (lv:List cR) (ru:List (PyData×PyData)):En→Prop
 | mk (v7 v8 v9 v10 v11 fM yc vo vp sU sV ZP:Option Vl):HE b zs ps own rk lv ru (hEn b zs ps own rk lv ru v7 v8 v9 v10 v11 fM yc vo vp sU sV ZP)
theorem HN (a c:Nat) {n i:Nat} (h:i < n):a + c * (n - i)=a + c * (n - (i + 1)) + c:=by
 rw [show n - i=(n - (i + 1)) + 1 by omega,Nat.mul_add,Nat.mul_one,Nat.add_assoc]
theorem Vk (a:Nat) {n i:Nat} (h:i < n):a + (n - i)=a + (n - (i + 1)) + 1:=by omega
theorem hide {P:Prop} (h:∀G:Prop,(P→G)→G):P:=h P id
end L2
namespace L2
open PySem PySem.Spec PyProof.Rows PySem.W
section
variable {prog:Program} {w:World} {A:Around} {E:Value→Shared→Prop} {s:Shared}
end
section
variable {prog:Program} {w:World} {A:Around} {E:Value→Shared→Prop} {s:Shared} {z TI TO i1 i2 l1 l2:Addr} {f1 f2:List Addr} {n:Nat} {P1 P2:Nat→Value→Prop} {S1 S2:Nat→Heap→Prop}
end
end L2
namespace L2
open PySem PySem.Spec PyProof.Rows PySem.W
end L2
namespace L2
open PySem PySem.Spec PyProof.Rows PySem.W
section
variable {X:Cx}
end
end L2
namespace L2
open PySem PySem.Spec PyProof.Rows PySem.W
noncomputable def HQ (fk:FB) (fv:FE):FE:=fun env C=>match fk env C with
 | some (dk,e1,C1)=>match fv e1 C1 with
  | some (r,e2,C2)=>match cN dk with
   | some _=>match still r with
    | .im d=>some (.ow (.dict [(dk,d)]),e2,C2)
    | _=>none
   | none=>none
  | none=>none
 | none=>none
theorem Nx {X:Cx} {k v:Expr} {pos:Pos} {fk:FB} {fv:FE} (hk:PE X k (kY X.K fk)) (hv:PE X v (tE X.K fv)):PE X (.Dict [some k] [v] pos) (tE X.K (HQ fk fv)):=
 (PL (K7 hk hv PK) rfl rfl (fun z=>nomatch z) (Nat.le_of_ble_eq_true rfl)).weak fun σ H Q aP=>by
 obtain ⟨Z,Θ,env,C,r,env',C',S,hf,q⟩:=aP
 unfold HQ at hf
 split at hf
 case h_2=>cases hf
 rename_i dk e1 C1 h1
 split at hf
 case h_2=>cases hf
 rename_i rv e2 C2 h2
 split at hf
 case h_2=>cases hf
 rename_i kk hkk
 split at hf
 case h_2=>cases hf
 rename_i d hs
 cases hf
 intro p hp
 refine ⟨p::Z,Θ,env,C,dk,e1,C1,S.push hp _ (fun _ z=>nomatch z),h1,fun x H1 k1 f1 S1 bx=>?_⟩
 refine ⟨p::Z,Θ,e1,C1,rv,env',C',S1,h2,fun y H2 k2 f2 r2=>?_⟩
 have R:=r2.still
 rw [hs] at R
 obtain ⟨S2,rz⟩:=R
 have ex:x=kV kk:=by
  cases dk <;> first | (cases hkk; exact bx) | cases hkk
 have Ln:bK Θ H H2:=((bK.upd hp).trans k1).trans k2
 have np:p∉Θ:=fun m=>by
  have:=(List.nodup_cons.mp S2.nd).1
  exact this (List.mem_append_right _ (List.mem_append_left _ m))
 have e2p:H2 p=some (.dK []):=(k1.trans k2).keep _ _ aL np
 refine ⟨e2p,[(kk,y)],by rw [ex]; rfl,Nat.le_of_ble_eq_true rfl,?_⟩
 have kf:bK Θ H (upd H2 p (.dK [(kk,y)])):=⟨fun a o ha na=>by
  rw [aJ (bz ha hp)]
  exact Ln.keep _ _ ha na,fun a ha=>by
  by_cases z:a=p
  ·exact absurd (z ▸ hp) ha
  ·rw [aJ z]
   exact Ln.2 a ha⟩
 have c2:dX Θ C' (upd H2 p (.dK [(kk,y)])):=⟨S2.cell.len,fun n b ns h3 h4=>by
  have:=S2.cell.at_ n b ns h3 h4
  rw [aJ (show b≠p from fun z=>np (by rw [←z]; exact List.mem_of_getElem? h3))]
  exact this⟩
 refine q _ _ kf (f1.trans f2) ⟨p,rfl,hp,(S.fz (f1.trans f2)).uT hp kf ⟨_,aL,fun _ z=>nomatch z⟩ c2,[y],.inl ⟨[kk],?_,aL⟩,y,[],rfl,?_,rfl⟩
 ·unfold cC
  rw [hkk]
  rfl
 ·refine rz.same fun a u e=>?_
  unfold er at e ⊢
  split at e
  ·cases e
  ·rename_i n
   rw [if_neg n,aJ (show a≠p from fun z=>n (by rw [z]; exact List.mem_cons_self))]
   exact e
noncomputable def QX (i:Nat) (f:FB):FS:=fun env C=>if lX env[i]? then match f env C with
  | some (.list ys,e1,C1)=>match e1[i]? with
   | some (some (.ow (.list ds)))=>if ds.length + ys.length≤LIM then some (.nx,e1.set i (some (.ow (.list (ds++ys)))),C1) else none
   | _=>none
  | _=>none
 else none
theorem Vm {X:Cx} {pos:Pos} {i:Nat} {o e:Expr} {f:FB} {apos cpos:Pos} (ho:PE X o (uc i)) (he:PE X e (kY X.K f))
  (hs0:swapsWith (.Call (.Attribute o "extend" apos) [e] [] cpos) none pos.line X.env=pure false:=by rfl)
  (hbase:attributeBase o "extend" X.env (eval o X.env)=eval o X.env:=by rfl)
  (hfew:((backTo cpos (starEach [e] X.env)).all (fun x=>!x.1)&&(backToKw cpos (keywordEach [] X.env)).all (fun x=>x.1.isSome)
   &&decide (([e]:List Expr).length + ([]:List Keyword).length + (if ([]:List Keyword).isEmpty then 0 else 1) < 30))=true:=by rfl)
  (hline:(apos.endLine==cpos.line)=true:=by rfl) (hs:starEach [e] X.env=(false,eval e X.env)::starEach [] X.env:=by rfl) (hplain:(backTo cpos (starEach [] X.env)).any (·.1)=false:=by rfl):
  PS X (.Expr (.Call (.Attribute o "extend" apos) [e] [] cpos) pos) (tS X.K (QX i f)):=
 (Gs (K3 PySem.F.plainAttrs_list PySem.F.slot_list_extend PySem.F.type_list_extend (RC.r Jd) ho (dz he iM hs) hbase hfew hline hs hplain) hs0).weak fun D σ H aP=>by
  obtain ⟨Z,Θ,env,C,fl,env',C',S,hf,q⟩:=aP
  unfold QX at hf
  split at hf
  ·rename_i h0
   obtain ⟨ds0,h0⟩:=Bu h0
   obtain ⟨v0,UJ,a,rfl,Yg,ha0,r0⟩:=S.slot i _ h0
   split at hf
   ·rename_i ys e1 C1 h1
    split at hf
    ·rename_i ds hi
     split at hf
     ·rename_i hl
      cases hf
      refine ⟨_,UJ,.inl ⟨rfl,Yg,cZ.of ha0⟩,Z,Θ,env,C,.list ys,e1,C',S,h1,fun v H1 k f S1 bo=>?_⟩
      obtain ⟨b,ws,rfl,hb,r1⟩:=bo
      obtain ⟨v1,ev1,a1,Zz,vs,ha1,r2⟩:=S1.slot i _ hi
      subst Zz
      rw [UJ] at ev1
      cases ev1
      refine ⟨a,b,vs,ws,rfl,rfl,ha1,bw hb,by rw [bI r2,bI r1,sizeLine_eq]; unfold LIM at hl; omega,?_⟩
      have w:jf X.K Z Θ e1 σ H1 Θ (e1.set i (some (.ow (.list (ds++ys))))) C' σ (upd H1 a (.lst (vs++ws))):=S1.write hi UJ ⟨_,aL,nW r2 r1⟩
      exact q Θ σ _ ((jf.Fg k f S1).trans w)
     ·cases hf
    ·cases hf
   ·cases hf
  ·cases hf
end L2
namespace L2
open PySem PySem.Spec PyProof.Rows PySem.W
section
variable {prog:Program} {w:World} {A:Around} {E:Value→Shared→Prop} {s:Shared} {R:Result→Shared→Prop} {I S:Addr} {fp wr:List Addr} {n:Nat} {Pv:Nat→Value→Prop} {St:Nat→Heap→Prop} {bt:Nat→Nat→Bool} {HK:Heap→Prop}
theorem QZ (W:Walks prog w A.in1 I fp wr n Pv St) (cmp:∀(i j:Nat) (vi vj:Value) (s:Shared) (Q:Value→Shared→Prop) (E:Value→Shared→Prop),HK s.heap→Pv i vi→Pv j vj→Q (.bool (bt i j)) s→wpAny (model prog w) A.in1 (richCompare .Lt vi vj) Q E s)
  (hk:∀h h',HK h→(∀b o,b∉wr→b≠S→h.get? b=some o→h'.get? b=some o)→HK h') (out:S∉fp):∀(m j:Nat) (s:Shared) (vb:Value) (c:Nat),n - (j + 1)=m→j + 1≤n→St (j + 1) s.heap→HK s.heap→Pv (argBest bt j) vb→s.heap.get? S=some (W2 vb c)→
  (∀v h' tk,Pv (argBest bt (n - 1)) v→(∀b o,b∉wr→b≠S→s.heap.get? b=some o→h'.get? b=some o)→R (.ok (.ret v)) { s with heap:=h',toks:=tk })→codeAny (model prog w) A (.builtin "min.loop" ⟨[.ref I,.none,.ref S],[]⟩) R s:=by
 have Q0:S∉wr:=fun z=>out (W.sub _ z)
 have nm:(toString "min"++toString ".loop":String)="min.loop":=by decide
 intro m
 induction m with
 | zero=>
  intro j s vb c hm hj st kp pb hS hR
  have last:j + 1=n:=by omega
  refine codeAny_builtin PySem.F.entry_min_loop ?_; rw [Around.under_plainId PySem.F.plain_min_loop _]
  show wpAny _ A.in1 (seqItems? (.ref S) >>= _) _ _ s; refine wpAny_bind (wpAny_seqItems hS rfl ?_)
  show wpAny _ A.in1 (tryCatch (pyNext (.ref I)) _ >>= _) _ _ s; refine wpAny_bind (wpAny_tryCatch (W.done s _ _ (last ▸ st) fun h' tk kk=>?_))
  have g:=kk S _ Q0 hS
  show wpAny _ A.in1 (updateSeq S (fun _=>#[]) >>= _) _ _ _; refine wpAny_bind (wpAny_updateSeq g rfl (wpAny_bind (wpAny_letGo (wpAny_pure ?_))))
  exact hR vb _ tk (by rw [←last]; exact pb) fun b o hb hbS e=>(Heap.get?_update_other _ _ (Ne.symm hbS)).trans (kk b o hb e)
 | succ m ih=>
  intro j s vb c hm hj st kp pb hS hR
  have lt:j + 1 < n:=by omega
  refine codeAny_builtin PySem.F.entry_min_loop ?_; rw [Around.under_plainId PySem.F.plain_min_loop _]
  show wpAny _ A.in1 (seqItems? (.ref S) >>= _) _ _ s; refine wpAny_bind (wpAny_seqItems hS rfl ?_)
  show wpAny _ A.in1 (tryCatch (pyNext (.ref I)) _ >>= _) _ _ s; refine wpAny_bind (wpAny_tryCatch (W.item (j + 1) s _ _ lt st fun v h' tk pv st' kk=>?_))
  have g:=kk S _ Q0 hS
  have Xq:HK h':=hk _ _ kp fun b o hb _ e=>kk b o hb e
  show wpAny _ A.in1 (tryCatch (holding [v,v] (richCompare .Lt v vb >>= _)) _ >>= _) _ _ _; refine wpAny_bind (wpAny_tryCatch (wpAny_holding (wpAny_bind (cmp (j + 1) (argBest bt j) v vb _ _ _ Xq pv pb ?_))))
  refine wpAny_bind (wpAny_holding (wpAny_truthy_bool (wpAny_bind (wpAny_letGo (wpAny_pure ?_)))))
  cases hb:bt (j + 1) (argBest bt j) with
  | true=>
   simp only [if_true]
   refine wpAny_bind (wpAny_updateSeq g rfl (wpAny_bind (wpAny_letGo ?_))); rw [nm]
   refine wpAny_pure ⟨plainId_quiet PySem.F.plain_min_loop _,ih (j + 1) _ v _ (by omega) lt (W.frame _ _ _ st' fun b hbf o e=>(Heap.get?_update_other _ _ fun z:S=b=>out (z ▸ hbf)).trans e) (hk _ _ Xq fun b o _ hbS e=>(Heap.get?_update_other _ _ (Ne.symm hbS)).trans e) (by simp only [argBest,hb,if_true]; exact pv) (Heap.get?_update_self _ g rfl) fun v' h2 tk2 Xr Ln=>?_⟩
   exact hR v' h2 tk2 Xr fun b o hb' hbS e=>Ln b o hb' hbS ((Heap.get?_update_other _ _ (Ne.symm hbS)).trans (kk b o hb' e))
  | false=>
   simp only [Bool.false_eq_true,if_false]
   refine wpAny_bind (wpAny_letGo ?_); rw [nm]
   refine wpAny_pure ⟨plainId_quiet PySem.F.plain_min_loop _,ih (j + 1) _ vb c (by omega) lt st' Xq (by simp only [argBest,hb,Bool.false_eq_true,if_false]; exact pb) g fun v' h2 tk2 Xr Ln=>?_⟩
   exact hR v' h2 tk2 Xr fun b o hb' hbS e=>Ln b o hb' hbS (kk b o hb' e)
theorem Q3 (W:Walks prog w A.in1 I fp wr n Pv St) (cmp:∀(i j:Nat) (vi vj:Value) (s:Shared) (Q:Value→Shared→Prop) (E:Value→Shared→Prop),HK s.heap→Pv i vi→Pv j vj→Q (.bool (bt i j)) s→wpAny (model prog w) A.in1 (richCompare .Lt vi vj) Q E s)
  (hk:∀h h',HK h→(∀b o,b∉wr→b≠S→h.get? b=some o→h'.get? b=some o)→HK h') (out:S∉fp) (pos:0 < n) {c:Nat} (st:St 0 s.heap) (kp:HK s.heap) (hS:s.heap.get? S=some { cls:=.type "list",dict:=none,data:=.seq #[] c,slots:=#[] })
  (hR:∀v h' tk,Pv (argBest bt (n - 1)) v→(∀b o,b∉wr→b≠S→s.heap.get? b=some o→h'.get? b=some o)→R (.ok (.ret v)) { s with heap:=h',toks:=tk }):codeAny (model prog w) A (.builtin "min.loop" ⟨[.ref I,.none,.ref S],[]⟩) R s:=by
 have Q0:S∉wr:=fun z=>out (W.sub _ z)
 have nm:(toString "min"++toString ".loop":String)="min.loop":=by decide
 refine codeAny_builtin PySem.F.entry_min_loop ?_; rw [Around.under_plainId PySem.F.plain_min_loop _]
 show wpAny _ A.in1 (seqItems? (.ref S) >>= _) _ _ s; refine wpAny_bind (wpAny_seqItems hS rfl ?_)
 show wpAny _ A.in1 (tryCatch (pyNext (.ref I)) _ >>= _) _ _ s; refine wpAny_bind (wpAny_tryCatch (W.item 0 s _ _ pos st fun v h' tk pv st' kk=>?_))
 have g:=kk S _ Q0 hS
 have Xq:HK h':=hk _ _ kp fun b o hb _ e=>kk b o hb e
 show wpAny _ A.in1 (updateSeq S (fun _=>#[v,v]) >>= _) _ _ _; refine wpAny_bind (wpAny_updateSeq g rfl ?_); rw [nm]
 refine wpAny_pure ⟨plainId_quiet PySem.F.plain_min_loop _,QZ W cmp hk out _ 0 _ v _ rfl pos (W.frame _ _ _ st' fun b hbf o e=>(Heap.get?_update_other _ _ fun z:S=b=>out (z ▸ hbf)).trans e) (hk _ _ Xq fun b o _ hbS e=>(Heap.get?_update_other _ _ (Ne.symm hbS)).trans e) pv (Heap.get?_update_self _ g rfl) fun v' h2 tk2 Xr Ln=>?_⟩
 exact hR v' h2 tk2 Xr fun b o hb' hbS e=>Ln b o hb' hbS ((Heap.get?_update_other _ _ (Ne.symm hbS)).trans (kk b o hb' e))
theorem Q4 {l:Addr} {items:Array Value} {Q:Value→Shared→Prop} (hh:A.handled=none) (hl:s.heap.IsList l items) (pos:0 < items.size)
  (cmp:∀(i j:Nat) (vi vj:Value) (s':Shared) (Q:Value→Shared→Prop) (E:Value→Shared→Prop),(∀b o,s.heap.get? b=some o→s'.heap.get? b=some o)→items[i]?=some vi→items[j]?=some vj→Q (.bool (bt i j)) s'→wpAny (model prog w) A.in1 (richCompare .Lt vi vj) Q E s')
  (h:∀(v:Value) (h':Heap) (tk:Nat),items[argBest bt (items.size - 1)]?=some v→(∀b o,s.heap.get? b=some o→h'.get? b=some o)→Q v { s with heap:=h',toks:=tk }):wpAny (model prog w) A (call (.builtin "min") [.ref l]) Q E s:=by
 have nm:(toString "min"++toString ".loop":String)="min.loop":=by decide
 have ltl:l < s.heap.objs.size:=by obtain ⟨o,ho,_⟩:=hl; exact Heap.lt_size ho
 refine yU PySem.F.kind_min PySem.F.plain_min PySem.F.entry_min (PySem.F.args_min1 _) ?_
 show wpAny _ A.in1 (Builtin.Builtins.bindParams "min" ["key","default"] 0 ⟨[],[]⟩ >>= _) _ _ s
 refine wpAny_bind (wpAny_of_eq (show Builtin.Builtins.bindParams "min" ["key","default"] 0 ⟨[],[]⟩=pure [none,none] from rfl) ?_); refine wpAny_bind (wpAny_pure ?_)
 refine wpAny_bind (wpAny_pyIter_list hl (wpAny_bind (wpAny_newObj_type ?_)))
 rw [nm]
 have RN:(s.heap.push { cls:=.type "list_iterator",data:=.fields #[.ref l,.int 0 0] }).objs.size=s.heap.objs.size + 1:=Heap.size_push ..
 have W:=Walks.list (prog:=prog) (w:=w) (A:=A.in1) (by simp [hh]) s.heap.objs.size l (Nat.ne_of_lt ltl) items
 refine wpAny_pure ⟨plainId_quiet PySem.F.plain_min_loop _,?_⟩
 show codeAny (model prog w) A (.builtin "min.loop" ⟨[.ref s.heap.objs.size,.none,.ref (s.heap.push { cls:=.type "list_iterator",data:=.fields #[.ref l,.int 0 0] }).objs.size],[]⟩) _ { s with heap:=(s.heap.push { cls:=.type "list_iterator",data:=.fields #[.ref l,.int 0 0] }).push { cls:=.type "list",data:=.seq #[] } }
 have ol:∀b o,s.heap.get? b=some o→b∉[s.heap.objs.size]:=fun b o e=>by
  simp only [List.mem_cons,List.not_mem_nil,or_false]
  exact Nat.ne_of_lt (Heap.lt_size e)
 have ol2:∀b o,s.heap.get? b=some o→b≠(s.heap.push { cls:=.type "list_iterator",data:=.fields #[.ref l,.int 0 0] }).objs.size:=fun b o e=>by
  rw [RN]
  exact Nat.ne_of_lt (Nat.lt_succ_of_lt (Heap.lt_size e))
 refine Q3 (HK:=fun h=>∀b o,s.heap.get? b=some o→h.get? b=some o) W cmp (fun h h' k kk b o e=>kk b o (ol b o e) (ol2 b o e) (k b o e)) ?_ pos ⟨⟨_,Heap.get?_push_of_some _ (Heap.get?_push_size _ rfl),rfl,rfl⟩,(hl.push _).push _⟩ (fun b o e=>Heap.get?_push_of_some _ (Heap.get?_push_of_some _ e)) (Heap.get?_push_size _ rfl) fun v h' tk hv kk=>?_
 ·rw [RN]
  simp only [List.mem_cons,List.not_mem_nil,or_false,not_or]
  exact ⟨Nat.ne_of_gt (Nat.lt_succ_self _),Nat.ne_of_gt (Nat.lt_succ_of_lt ltl)⟩
 ·exact h v h' tk hv fun b o e=>kk b o (ol b o e) (ol2 b o e) (Heap.get?_push_of_some _ (Heap.get?_push_of_some _ e))
end
section
variable {X:Cx}
theorem wG (hc:X.calm=true) (hu:X.A.units + 1 < cLine):dZ X (.builtin "min") (fun xs H Q=>∃(p:Addr) (rows:List Row) (sh:List Bool),xs=[.ref p]∧cZ X.K H p (rows.map fun r=>V.ref r.1)∧0 < rows.length∧(∀r∈rows,H r.1=some (.tup (r.2.map kV))∧r.2.map eU=sh)∧
  ∀r,rows[argBest (gG rows) (rows.length - 1)]?=some r→Q (.ref r.1) H):=by
 intro pins s σ H xs us Q I r h
 obtain ⟨p,rows,sh,rfl,hp,pos,ha,q⟩:=h
 obtain ⟨u,rfl,ru⟩:=vals1 r
 cases ru
 obtain ⟨its,r',pl,hz⟩:=I.list hp
 have ei:its=rows.map fun r=>Value.ref r.1:=by
  clear pos ha q pl hz hp
  induction rows generalizing its with
  | nil=>cases r'; rfl
  | cons a rows ih=>
   cases r' with
   | cons h t=>
    cases h
    rw [ih _ t]
    rfl
 subst ei
 have tu:∀r∈rows,TupAt s.heap r∧r.2.map eU=sh:=fun r hr=>by
  obtain ⟨_,its,v,t⟩:=(show bW X.prog X.w H s.heap r.1 (.tup (r.2.map kV)) from I.hok r.1 _ (ha r hr).1)
  exact ⟨⟨its,v,t⟩,(ha r hr).2⟩
 refine Q4 (bt:=gG rows) (I.ok.hd hc) pl.isList (by simpa using pos) (fun i j vi vj s' Q E k hi hj q=>?_) fun v h' tk hv k=>?_
 ·have hi':(rows.map fun r=>Value.ref r.1)[i]?=some vi:=by simpa using hi
  have hj':(rows.map fun r=>Value.ref r.1)[j]?=some vj:=by simpa using hj
  rw [List.getElem?_map] at hi' hj'
  cases ri:rows[i]? with
  | none=>rw [ri] at hi'; cases hi'
  | some a=>
   cases rj:rows[j]? with
   | none=>rw [rj] at hj'; cases hj'
   | some b=>
    rw [ri] at hi'
    rw [rj] at hj'
    cases hi'
    cases hj'
    obtain ⟨⟨its,v,t⟩,sa⟩:=tu a (List.mem_of_getElem? ri)
    obtain ⟨⟨its2,v2,t2⟩,sb⟩:=tu b (List.mem_of_getElem? rj)
    have ta:=(TupAt.keep (r:=a) ⟨its,v,t⟩ k)
    have tb:=(TupAt.keep (r:=b) ⟨its2,v2,t2⟩ k)
    obtain ⟨its,v,t⟩:=ta
    obtain ⟨its2,v2,t2⟩:=tb
    refine uD t t2 (by simpa using v) (by simpa using v2) (sa.trans sb.symm) hu ?_
    have e:gG rows i j=gn a.2 b.2:=by
     unfold gG qm
     simp [ri,rj]
    rw [←e]
    exact q
 ·have hv':(rows.map fun r=>Value.ref r.1)[argBest (gG rows) (rows.length - 1)]?=some v:=by simpa using hv
  rw [List.getElem?_map] at hv'
  cases rv:rows[argBest (gG rows) (rows.length - 1)]? with
  | none=>rw [rv] at hv'; cases hv'
  | some a=>
   rw [rv] at hv'
   cases hv'
   exact ⟨.ref a.1,H,I.kept (t':=tk) k,rfl,q a rv⟩
end
end L2
namespace L2
open PySem PySem.Spec PyProof.Rows PySem.W
noncomputable def ZQ (K:PySem.W.Frag) (a:Addr):It:=⟨fun i H=>∃xs,cZ K H a xs∧i < xs.length,
 fun i H v H'=>∃p x,H p=none∧v=.ref p∧H'=upd H p (.tup [.int i,x])∧∀xs,cZ K H a xs→xs[i]?=some x,
 fun i H=>∃xs,cZ K H a xs∧i=xs.length⟩
theorem JS {P:Program} {w:World} {K:PySem.W.Frag} {es:List Expr} {k:Nat} {ps:Pos} {a z j:Addr} (hzj:z≠j):
  Turn P w K (.Tuple es k ps) (ZQ K a) [z,j] z (fun i h=>(∃old,IsEnum h z j i old)∧h.IsListIter j a i) where
 mem:=by simp
 obj:=fun i h st c hc=>by
  obtain ⟨⟨_,h1⟩,⟨o4,e4,_,d4⟩⟩:=st
  simp only [List.mem_cons,List.not_mem_nil,or_false] at hc
  rcases hc with rfl | rfl
  ·exact ⟨_,h1,fun v q=>by cases q⟩
  ·exact ⟨_,e4,fun v q=>by rw [d4] at q; cases q⟩
 keep:=fun i h h' st kk=>by
  obtain ⟨⟨old,h1⟩,⟨o4,e4,r4⟩⟩:=st
  exact ⟨⟨old,kk z (by simp) _ h1⟩,⟨o4,kk j (by simp) _ e4,r4⟩⟩
 item:=by
  intro X hP hw hK hc i pins s σ H E I hf st hg
  subst hP hw hK
  obtain ⟨xs,ha,hi⟩:=hg
  obtain ⟨its,r1,p1,_⟩:=I.list ha
  obtain ⟨⟨old,s1⟩,s2⟩:=st
  have ex:xs[i]?=some (xs.getD i .non):=by simp [List.getD,hi]
  obtain ⟨u,hu,q1⟩:=r1.get ex
  have hx:its.toArray[i]?=some u:=by simpa using hu
  refine wpAny_pyNext_enum_item s1 s2 p1.isList hx hzj fun h' a1 a2 a3 a4 kk=>⟨_,rfl,wpAny_letOwnedTupleGo_enum a1 fun h2 z2 m2=>?_⟩
  have ltz:z < s.heap.objs.size:=Heap.lt_size s1
  have WM:H s.heap.objs.size=none:=I.hok.fresh (Nat.le_refl _)
  have kT:h2.get? s.heap.objs.size=some { cls:=.type "tuple",data:=.seq #[.int i s.toks,u] }:=m2.extBut _ _ (Nat.ne_of_gt ltz) a3
  refine ⟨.ref s.heap.objs.size,upd H s.heap.objs.size (.tup [.int i,xs.getD i .non]),Inv.qi (s:=s) (h':=h2) (t':=s.toks + 1) (ch:=[z,j]) I (fun c o hc e=>?_) hf (aQ.upd WM) (fun c o e n=>?_) (fun c v e=>?_),rfl,⟨_,_,WM,rfl,rfl,fun xs' h1=>?_⟩,⟨⟨_,z2⟩,a2.extBut m2.extBut (Ne.symm hzj)⟩,fun c hc=>?_⟩
  ·simp only [List.mem_cons,List.not_mem_nil,or_false,not_or] at hc
   exact m2.extBut _ _ hc.1 (kk c o hc.1 hc.2 e)
  ·rw [aJ (Nat.ne_of_lt (Heap.lt_size e))]
   exact n
  ·by_cases WN:c=s.heap.objs.size
   ·subst WN
    rw [aL] at e
    cases e
    exact .inr ⟨by show 2≤sizeLine; decide,[.int i s.toks,u],.cons ⟨_,rfl⟩ (.cons q1 .nil),_,kT,rfl,_,rfl⟩
   ·rw [aJ WN] at e
    exact .inl e
  ·rw [I.pR h1 ha]
   exact ex
  ·rw [aJ]
   ·exact (hf c hc).1
   ·simp only [List.mem_cons,List.not_mem_nil,or_false] at hc
    obtain ⟨o4,e4,_⟩:=s2
    rcases hc with rfl | rfl
    ·exact Nat.ne_of_lt ltz
    ·exact Nat.ne_of_lt (Heap.lt_size e4)
 done:=by
  intro X hP hw hK hc i pins s σ H E I hf st hg
  subst hP hw hK
  obtain ⟨xs,ha,hi⟩:=hg
  obtain ⟨its,r1,p1,_⟩:=I.list ha
  obtain ⟨⟨old,s1⟩,s2⟩:=st
  have l1:=r1.length
  refine wpAny_pyNext_enum_end (I.ok.hd hc) s1 s2 p1.isList (by simp; omega) fun h' kk=>⟨rfl,I.qi (t':=s.toks) (ch:=[z,j]) (fun c o hc e=>?_) hf (aQ.refl H) (fun _ _ _ n=>n) fun _ _ e=>.inl e⟩
  simp only [List.mem_cons,List.not_mem_nil,or_false,not_or] at hc
  exact kk _ _ hc.2 e
 self:=fun _ _ _ _ _ st h=>by
  obtain ⟨⟨_,h1⟩,_⟩:=st
  exact wpAny_pyIter_enum h1 h
noncomputable def ZR (K:PySem.W.Frag) (t:TA):TI:=fun σ H R=>t σ H fun vs H1=>∃a xs,vs=[.ref a]∧cZ K H1 a xs∧R (ZQ K a) H1
theorem Vn {X:Cx} {es:List Expr} {k:Nat} {ps:Pos} {x:Expr} {t:TA} {p pos:Pos} (hg:Gl X "enumerate") (hm:X.mg "enumerate"=none) (ha:PA X [x] t) (hs:starEach [x] X.env=[(false,eval x X.env)]:=by rfl) (hs2:starEach ([]:List Expr) X.env=[]:=by rfl):
  PI X (.Tuple es k ps) (.Call (.Name "enumerate" p) [x] [] pos) (ZR X.K t):=by
 intro pins s σ H R I h
 refine Call_ (kE I hg hm PyProof.Rows.boot_enumerate (PyProof.Rows.callWith_type1 (cI (ha pos pins s σ H _ I h) fun us s1 aP=>?_) (by rw [hs,hs2]) (by rw [hs2]; rfl)))
 obtain ⟨vs,H1,I1,r1,a,xs,e,h1,q⟩:=aP
 subst e
 obtain ⟨u,rfl,r⟩:=vals1 r1
 cases r
 obtain ⟨its,v1,p1,_⟩:=I1.list h1
 refine call_enumerate_list p1.isList fun h' g1 g2 _ kk=>wpAny_pyIter_enum g1 ?_
 have I2:Inv X pins σ H1 { s1 with heap:=h' }:=I1.kept (t':=s1.toks) kk
 refine ⟨s1.heap.objs.size + 1,[s1.heap.objs.size + 1,s1.heap.objs.size],_,_,H1,rfl,I2,JS (Nat.succ_ne_self _),⟨⟨_,g1⟩,g2⟩,fun c hc=>?_,q⟩
 refine I1.yD ?_ (I1.hok.fresh ?_)
 all_goals
  simp only [List.mem_cons,List.not_mem_nil,or_false] at hc
  rcases hc with rfl | rfl <;> omega
noncomputable def vA (ds:List PyData):List PyData:=ds.zipIdx.map fun p=>.tuple [.int (p.2:Nat),p.1]
theorem CN {ds:List PyData} {i:Nat} {d:PyData} (h:(vA ds)[i]?=some d):∃x,ds[i]?=some x∧d=.tuple [.int i,x]:=by
 unfold vA at h
 rw [List.getElem?_map,List.getElem?_zipIdx] at h
 cases hx:ds[i]? with
 | none=>rw [hx] at h; cases h
 | some x=>
  rw [hx] at h
  refine ⟨x,rfl,?_⟩
  have:=Option.some.inj h
  rw [←this,Nat.zero_add]
theorem yo (ds:List PyData):(vA ds).length=ds.length:=by
 unfold vA
 rw [List.length_map,List.length_zipIdx]
theorem Q5 {K:PySem.W.Frag} {P:List Addr} {H:Hp} {a:Addr} {ds:List PyData} {vs:List V} (ha:er P H a=some (.lst vs)) (r:eY (er P H) ds vs):wC P P H (ZQ K a) (vA ds):=fun i H2 P2 s1 s2 n=>by
 have h2:cZ K H2 a vs:=cZ.of (bw (s1 _ _ ha))
 have l1:=bI r
 refine ⟨fun d hd=>?_,fun hi=>⟨vs,h2,by rw [hi,yo]; exact l1.symm⟩⟩
 obtain ⟨x,e1,rfl⟩:=CN hd
 obtain ⟨v,ev,rv⟩:=m5 r e1
 refine ⟨⟨vs,h2,(List.getElem?_eq_some_iff.mp ev).1⟩,fun y H3 yl=>?_⟩
 obtain ⟨p,v',hp,rfl,rfl,hh⟩:=yl
 have g1:=hh vs h2
 rw [ev] at g1
 cases g1
 have sp:aQ H2 (upd H2 p (.tup [.int i,v])):=aQ.upd hp
 refine ⟨sp,p,[.int i,v],rfl,?_,.int i,[v],rfl,rfl,v,[],rfl,rv.same (s1.trans (qt sp)),rfl⟩
 unfold er
 rw [if_neg (fun m=>n p m hp),aL]
noncomputable def Yo (f:FE):FI:=fun env C=>match f env C with
 | some (r,e1,C1)=>match still r with
  | .im (.list ds)=>some (vA ds,e1,C1)
  | _=>none
 | none=>none
theorem Q6 {X:Cx} {es:List Expr} {k:Nat} {ps:Pos} {x:Expr} {f:FE} {p pos:Pos} (hg:Gl X "enumerate") (hm:X.mg "enumerate"=none) (ha:PE X x (tE X.K f)) (hs:starEach [x] X.env=(false,eval x X.env)::starEach [] X.env:=by rfl) (hs1:starEach [x] X.env=[(false,eval x X.env)]:=by rfl) (hs2:starEach ([]:List Expr) X.env=[]:=by rfl):
  PI X (.Tuple es k ps) (.Call (.Name "enumerate" p) [x] [] pos) (tI X.K false (Yo f)):=(Vn hg hm (dz ha iM hs) hs1 hs2).weak fun σ H R aP=>by
 obtain ⟨Z,Θ,env,C,its,env',C',S,hf,q⟩:=aP
 unfold Yo at hf
 split at hf
 case h_2=>cases hf
 rename_i r e1 C1 h1
 split at hf
 case h_2=>cases hf
 rename_i ds hd
 cases hf
 refine ⟨Z,Θ,env,C,_,env',C',S,h1,fun v H1 k f R=>?_⟩
 obtain ⟨S1,a,vs,rfl,ha,r⟩:=R.lW hd
 exact ⟨a,vs,rfl,cZ.of (bw ha),q _ H1 k f S1 (Q5 ha r)⟩
end L2
namespace L2
open PySem PySem.Spec PyProof.Rows PySem.W
theorem JT {P:Program} {w:World} {k:Key} {u:Value} (h:(cj P w).is k u=true):RelV (kV k) u:=by
 rcases cz h with ⟨i,t,rfl,rfl⟩ | ⟨x,t,rfl,rfl⟩ <;> exact ⟨t,rfl⟩
section
variable {prog:Program} {w:World} {A:Around} {E:Value→Shared→Prop} {s:Shared} {r d:Addr} {kvs:List (Key×Value)} {ep:Nat} {b c:Bool} {Q:Value→Shared→Prop}
noncomputable def gJ (as:List Addr) (fH:List (Key×Key)):List Row:=as.zipWith (fun a p=>(a,[p.1,p.2])) fH
theorem rN {fH:List (Key×Key)} (hh:A.handled=none) (hv:s.heap.IsItemsView r d) (hm:s.heap.DictAt (cj prog w) d kvs ep) (h64:fH.length < 64) (hne:0 < fH.length) (hk:kvs.map (·.1)=fH.map (·.1)) (hx:Vals (fH.map fun p=>kV p.2) (kvs.map (·.2))) (hty:∀p∈fH,eU p.1=b∧eU p.2=c)
  (h:∀(as:List Addr) (p:List Nat) (D:Addr) (h':Heap) (n tk:Nat),as.length=fH.length→as.Pairwise (· < ·)→(∀a∈as,s.heap.objs.size≤a∧a≠D)→(∀r∈gJ as fH,TupAt h' r)→p.Perm (List.range (gJ as fH).length)→p=wu ((gJ as fH).map (·.2))→s.heap.objs.size≤D→(∀b o,s.heap.get? b=some o→h'.get? b=some o)→
   h'.get? D=some (seqObj "list" ((p.map fun i=>(gJ as fH).getD i (0,[])).map fun r=>Value.ref r.1).toArray n)→Q (.ref D) { s with heap:=h',toks:=tk }):
  wpAny (model prog w) A (call (.builtin "sorted") [.ref r]) Q E s:=by
 have hlk:kvs.length=fH.length:=by have:=congrArg List.length hk; simpa using this
 refine Calls.call_function_entry kind_sorted plain_sorted entry_sorted (args_sorted1 _) ?_
 unfold Builtin.«sorted»
 refine wpAny_bind (m:=checkCount "sorted" 1 1 _) (wpAny_pure (wpAny_bind (kdx_collect (A:=A.in1) (by simp [hh]) hv hm (by rw [sizeLine_eq]; omega) fun h1 tk as kk hlen G=>?_)))
 have hla:as.length=fH.length:=by omega
 have hlr:(gJ as fH).length=fH.length:=by unfold gJ; rw [List.length_zipWith]; omega
 have tu:∀r∈gJ as fH,TupAt h1 r∧r.2.map eU=b::[c]:=fun r hr=>by
  obtain ⟨j,hj,rfl⟩:=List.getElem_of_mem hr
  rw [hlr] at hj
  have ea:as[j]?=some as[j]:=List.getElem?_eq_getElem (by omega)
  have ek:fH[j]?=some fH[j]:=List.getElem?_eq_getElem hj
  obtain ⟨key,k,x,e1,e2,e3⟩:=G.pairs j _ ea
  have er:(gJ as fH)[j]'(by omega)=(as[j],[fH[j].1,fH[j].2]):=by simp [gJ]
  rw [er]
  have kk1:k=fH[j].1:=by
   have:=congrArg (·[j]?) hk
   simp only [List.getElem?_map,e1,ek,Option.map_some] at this
   exact Option.some.inj this
  have kx:RelV (kV fH[j].2) x:=by
   have q1:(fH.map fun p=>kV p.2)[j]?=some (kV fH[j].2):=by rw [List.getElem?_map,ek]; rfl
   obtain ⟨u,g1,g2⟩:=hx.get q1
   rw [List.getElem?_map,e1] at g1
   cases g1
   exact g2
  refine ⟨⟨[key,x],.cons (kk1 ▸ JT e2) (.cons kx .nil),_,e3,rfl,_,rfl⟩,?_⟩
  have:=hty fH[j] (List.getElem_mem hj)
  show [eU fH[j].1,eU fH[j].2]=_
  rw [this.1,this.2]
 have eu:as.map Value.ref=(gJ as fH).map fun r=>Value.ref r.1:=by
  refine List.ext_getElem (by rw [List.length_map,List.length_map]; omega) fun i h1 h2=>?_
  rw [List.getElem_map,List.getElem_map]
  simp [gJ]
 rw [eu]
 have hsz:s.heap.objs.size≤h1.objs.size:=by
  have m:as[0]'(by omega)∈as:=List.getElem_mem _
  exact Nat.le_of_lt (Nat.lt_trans (G.above _ m) (G.there m))
 generalize hR:gJ as fH=rows at *
 refine wpAny_bind (wpAny_newList ?_ (by rw [List.length_map,sizeLine_eq]; omega))
 have hoL:(h1.push (seqObj "list" (rows.map fun r=>Value.ref r.1).toArray 0)).get? h1.objs.size=some (seqObj "list" (rows.map fun r=>Value.ref r.1).toArray 0):=Heap.get?_push_size _ rfl
 have up:∀s':Shared,Kp h1.objs.size (h1.push (seqObj "list" (rows.map fun r=>Value.ref r.1).toArray 0)) s'.heap→∀b o,h1.get? b=some o→s'.heap.get? b=some o:=fun s' k b o e=>k b o (Nat.ne_of_lt (Heap.lt_size e)) (Heap.get?_push_of_some _ e)
 refine wpAny_bind (wpAny_holding (wpAny_call_entry slot_list_sort ⟨_,hoL,rfl⟩ entry_list_sort (El (κ:=tuples' true) (lt:=gG rows) (Rl:=fun p=>p=wu (rows.map (·.2))) (vs:=rows.map fun r=>Value.ref r.1) (s:={ s with heap:=h1.push (seqObj "list" (rows.map fun r=>Value.ref r.1).toArray 0),toks:=tk }) hoL (by rw [List.length_map]; omega) (fun h2=>Jt (by rw [List.length_map]) h2) (fun h2=>Eo (by rw [List.length_map]) h2)
  (fun h2 s' k Q' q'=>Jo (fun r hr=>⟨(tu r hr).1.keep (up s' k),(tu r hr).2⟩) (by rw [List.length_map] at h2; omega) Q' q') (fun h2 s' k i j hi hj C q'=>Lx (sh:=b::[c]) (fun r hr=>⟨(tu r hr).1.keep (up s' k),(tu r hr).2⟩) (by simpa using hi) (by simpa using hj) C q') fun p h' n hp hrl k e=>⟨_,rfl,?_⟩) (args_list_sort _)))
 rw [List.length_map] at hp
 rw [Jq hp] at e
 have kh:=up { s with heap:=h' } k
 subst hR
 exact wpAny_pure ⟨_,rfl,h as p h1.objs.size h' n tk hla G.rise (fun a ha=>⟨Nat.le_of_lt (G.above a ha),Nat.ne_of_lt (G.there ha)⟩) (fun r hr=>(tu r hr).1.keep kh) hp hrl hsz (fun b o e=>kh b o (kk b o e)) e⟩
end
noncomputable def layR (H:Hp) (rows:List Row):Hp:=fun a=>match rows.find? (fun r=>decide (r.1=a)) with
 | some r=>some (.tup (r.2.map kV))
 | none=>H a
theorem Ny {H:Hp} {rows:List Row} {a:Addr} (h:∀r∈rows,r.1≠a):layR H rows a=H a:=by
 unfold layR
 rw [List.find?_eq_none.mpr fun r hr=>by rw [decide_eq_false (h r hr)]; exact Bool.false_ne_true]
theorem HR {H:Hp}:∀{rows:List Row},(rows.map (·.1)).Nodup→∀r∈rows,layR H rows r.1=some (.tup (r.2.map kV))
 | q::rows,nd,r,hr=>by
  rw [List.map_cons,List.nodup_cons] at nd
  unfold layR
  rcases List.mem_cons.mp hr with rfl | hr
  ·rw [List.find?_cons_of_pos (by simp)]
  ·have ne:¬decide (q.1=r.1)=true:=fun e=>nd.1 (List.mem_map.mpr ⟨r,hr,(of_decide_eq_true e).symm⟩)
   rw [List.find?_cons_of_neg (p:=fun r1:Row=>decide (r1.1=r.1)) ne]
   exact HR nd.2 r hr
theorem JV {H:Hp} {rows:List Row} {a:Addr} {u:HO} (h:layR H rows a=some u):H a=some u∨∃r∈rows,r.1=a∧u=.tup (r.2.map kV):=by
 unfold layR at h
 cases hf:rows.find? (fun r=>decide (r.1=a)) with
 | none=>rw [hf] at h; exact .inl h
 | some r=>
  rw [hf] at h
  exact .inr ⟨r,List.mem_of_find?_eq_some hf,of_decide_eq_true (List.find?_some (p:=fun r:Row=>decide (r.1=a)) hf),(Option.some.inj h).symm⟩
theorem CP:∀{fH:List (Key×Key)} {vs:List (Key×Value)},KV (fH.map fun p=>(p.1,kV p.2)) vs→vs.map (·.1)=fH.map (·.1)∧Vals (fH.map fun p=>kV p.2) (vs.map (·.2))
 | [],vs,h=>by cases h; exact ⟨rfl,.nil⟩
 | p::fH,vs,h=>by
  cases h with
  | cons h t=>
   obtain ⟨a,b⟩:=CP t
   exact ⟨by rw [List.map_cons,List.map_cons,a,←h.1],.cons h.2 b⟩
noncomputable def Q7 (td:TE):TE:=fun σ H Q=>td σ H fun x H1=>∃(d:Addr) (fH:List (Key×Key)) (b c:Bool),x=.ref d∧H1 d=some (.dK (fH.map fun p=>(p.1,kV p.2)))∧fH.length < 64∧0 < fH.length∧(∀p∈fH,eU p.1=b∧eU p.2=c)∧
 ∀(l:Addr) (rows:List Row) (H2:Hp),aQ H1 H2→H1 l=none→H2 l=some (.lst (rows.map fun r=>V.ref r.1))→rows.map (·.2)=Lw (fH.map fun p=>[p.1,p.2])→(∀r∈rows,H2 r.1=some (.tup (r.2.map kV)))→Q (.ref l) H2
theorem JW {X:Cx} {o:Expr} {td:TE} {p1 apos cpos pos1:Pos} (hc:X.calm=true) (ho:PE X o td) (g1:Gl X "sorted") (m1:X.mg "sorted"=none)
  (he:starEach [.Call (.Attribute o "items" apos) [] [] cpos] X.env=(false,eval (.Call (.Attribute o "items" apos) [] [] cpos) X.env)::starEach [] X.env:=by rfl) (hpl:(backTo pos1 (starEach [] X.env)).any (·.1)=false:=by rfl)
  (hbase:attributeBase o "items" X.env (eval o X.env)=eval o X.env:=by rfl) (hline:(apos.endLine==cpos.line)=true:=by rfl):
  PE X (.Call (.Name "sorted" p1) [.Call (.Attribute o "items" apos) [] [] cpos] [] pos1) (Q7 td):=by
 intro pins s σ H Q I h
 refine wpAny_Call_Name_kw (kE I g1 m1 (u:=.builtin "sorted") rfl ?_)
 refine PyProof.Rows.callWith_builtin1 ?_ he hpl
 rw [he]
 show wpAny _ _ (spliced ((false,eval (.Call (.Attribute o "items" apos) [] [] cpos) X.env)::backTo pos1 (starEach [] X.env))) _ _ s
 refine Calls.spliced_cons (wpAny_Call_method (T:="dict") (id:="dict.items") hbase rfl hline PySem.F.plainAttrs_dict PySem.F.slot_dict_items PySem.F.type_dict_items (cI (ho pins s σ H _ I h) fun u s1 aP=>?_))
 obtain ⟨x,H1,I1,rx,d,fH,b,c,ex,hd,h64,hne,hty,q⟩:=aP
 subst ex
 obtain rfl:u=Value.ref d:=rx
 obtain ⟨z,lo,vs,rel,dd⟩:=GC I1.hok hd
 obtain ⟨hk,hx⟩:=CP rel
 refine ⟨dd.typeIs,dd.mapOf.noDict,?_⟩
 show wpAny _ _ (callWith cpos (.builtin "dict.items") [.ref d] [] []) _ _ s1
 refine method_meetsIn PySem.F.slot_dict_items PySem.F.entry_dict_items rfl (PyProof.Rows.evalArgs_none ⟨rfl,dd.typeIs,PySem.F.args_dict_items_1 _,_,meets_dict_items (cj X.prog X.w) d lo,⟨vs,dd⟩,Calls.spliced_nil ?_⟩)
 obtain ⟨od,es,ep,hod,hdr⟩:=dd
 have sz:(s1.heap.push { cls:=.type "dict_items",data:=.fields #[.ref d] }).objs.size=s1.heap.objs.size + 1:=Heap.size_push ..
 refine rN (I1.ok.hd hc) (d:=d) ⟨_,Heap.get?_push_size _ rfl,rfl,rfl⟩ (ep:=ep) ⟨od,es,Heap.get?_push_of_some _ hod,hdr⟩ h64 hne hk hx hty fun as p D h' n tk hla hup hfr tu hp hrl hD kk e=>?_
 have nda:as.Nodup:=hup.imp fun h=>Nat.ne_of_lt h
 obtain ⟨rows,hR⟩:∃rows,rows=gJ as fH:=⟨_,rfl⟩
 rw [←hR] at tu hp hrl e
 have r1:rows.map (·.1)=as:=by
  rw [hR]
  refine List.ext_getElem (by simp [gJ,hla]) fun i h1 h2=>?_
  simp [gJ]
 have r2:rows.map (·.2)=fH.map fun p=>[p.1,p.2]:=by
  rw [hR]
  refine List.ext_getElem (by simp [gJ,hla]) fun i h1 h2=>?_
  simp [gJ]
 have ra:∀r∈rows,s1.heap.objs.size≤r.1∧r.1≠D:=fun r hr=>by
  have m:r.1∈as:=by rw [←r1]; exact List.mem_map.mpr ⟨r,hr,rfl⟩
  have:=hfr _ m
  rw [sz] at this
  exact ⟨by omega,this.2⟩
 rw [sz] at hD
 have hnD:H1 D=none:=I1.hok.fresh (by omega)
 have old:∀a,a < s1.heap.objs.size→upd (layR H1 rows) D (.lst ((p.map fun i=>rows.getD i (0,[])).map fun r=>V.ref r.1)) a=H1 a:=fun a ha=>by
  rw [aJ (show a≠D by omega),Ny fun r hr z=>by have:=(ra r hr).1; rw [z] at this; omega]
 have hin:∀r∈rows,upd (layR H1 rows) D (.lst ((p.map fun i=>rows.getD i (0,[])).map fun r=>V.ref r.1)) r.1=some (.tup (r.2.map kV)):=fun r hr=>by
  rw [aJ (ra r hr).2]
  exact HR (by rw [r1]; exact nda) r hr
 have sm:aQ H1 (upd (layR H1 rows) D (.lst ((p.map fun i=>rows.getD i (0,[])).map fun r=>V.ref r.1))):=fun a u ha=>by
  have lt:a < s1.heap.objs.size:=by
   rcases Nat.lt_or_ge a s1.heap.objs.size with h | h
   ·exact h
   ·rw [I1.hok.fresh h] at ha; cases ha
  rw [old a lt]
  exact ha
 refine ⟨.ref D,_,Inv.qi (s:=s1) (h':=h') (t':=tk) (ch:=[]) I1 (fun a o _ q=>kk a o (Heap.get?_push_of_some _ q)) (fun _ m=>nomatch m) sm (fun a o q n=>by rw [old a (Heap.lt_size q)]; exact n) (fun a u ha=>?_),rfl,q D (p.map fun i=>rows.getD i (0,[])) _ sm hnD aL ((Qh hp hrl).trans (by rw [r2])) fun r hr=>hin r ((Jp hp).mem_iff.mp hr)⟩
 by_cases hz:a=D
 ·subst hz
  rw [aL] at ha
  cases ha
  refine .inr ⟨?_,_,n,xF _,by simpa [seqObj] using e⟩
  rw [List.length_map,List.length_map,hp.length_eq,List.length_range,sizeLine_eq]
  have:=congrArg List.length r2
  rw [List.length_map,List.length_map] at this
  omega
 ·rw [aJ hz] at ha
  rcases JV ha with h | ⟨r,hr,rfl,rfl⟩
  ·exact .inl h
  ·obtain ⟨its,v,t⟩:=tu r hr
   refine .inr ⟨?_,its,v,t⟩
   have m:r.2∈fH.map fun p=>[p.1,p.2]:=by rw [←r2]; exact List.mem_map.mpr ⟨r,hr,rfl⟩
   obtain ⟨pp,_,e2⟩:=List.mem_map.mp m
   rw [←e2,sizeLine_eq]
   show 2≤_
   omega
end L2
namespace L2
open PySem PySem.Spec PyProof.Rows PySem.W
noncomputable def Nz:List (PyData×PyData)→Option (List (Key×Key))
 | []=>some []
 | p::r=>(cN p.1).bind fun k=>(cN p.2).bind fun v=>(Nz r).map fun t=>(k,v)::t
theorem CQ {E:Hp}:∀{kvs:List (PyData×PyData)} {fH:List (Key×Key)} {ks:List Key} {vs:List V},Nz kvs=some fH→cC cN kvs=some ks→pG E kvs vs→ks.zip vs=fH.map (fun p=>(p.1,kV p.2))∧kvs.map (fun p=>PyData.tuple [p.1,p.2])=fH.map (fun p=>.tuple [xT p.1,xT p.2])
 | [],fH,ks,vs,h,h1,_=>by cases h; cases h1; exact ⟨rfl,rfl⟩
 | p::r,fH,ks,vs,h,h1,h2=>by
  obtain ⟨k,e1,h⟩:=Option.bind_eq_some_iff.mp h
  obtain ⟨v,e2,h⟩:=Option.bind_eq_some_iff.mp h
  obtain ⟨t,e3,h⟩:=Option.map_eq_some_iff.mp h
  subst h
  unfold cC at h1
  rw [e1] at h1
  cases ha:cC cN r with
  | none=>rw [ha] at h1; cases h1
  | some t1=>
   rw [ha] at h1
   cases h1
   obtain ⟨u,w,rfl,q,h2⟩:=h2
   obtain ⟨a,b⟩:=CQ e3 ha h2
   obtain ⟨p1,p2⟩:=p
   have hv:u=kV v:=Mq e2 q
   have d1:p1=xT k:=by cases p1 <;> first | (cases e1; rfl) | cases e1
   have d2:p2=xT v:=by cases p2 <;> first | (cases e2; rfl) | cases e2
   refine ⟨?_,?_⟩
   ·rw [List.zip_cons_cons,List.map_cons,a,hv]
   ·rw [List.map_cons,List.map_cons,b,d1,d2]
noncomputable def FW (kvs:List (PyData×PyData)):Option (List PyData):=(Nz kvs).bind fun fH=>fH.head?.bind fun p=>if fH.length < 64∧∀q∈fH,eU q.1=eU p.1∧eU q.2=eU p.2 then some (QK (kvs.map fun p=>.tuple [p.1,p.2])) else none
noncomputable def NB:PyData→Option (List (PyData×PyData))
 | .dict kvs=>some kvs
 | _=>none
theorem NK {d:PyData} {kvs:List (PyData×PyData)} (h:NB d=some kvs):d=.dict kvs:=by
 cases d <;> first | (cases h; rfl) | cases h
noncomputable def zN (f:FB):FE:=fun env C=>(f env C).bind fun p=>(NB p.1).bind fun kvs=>(FW kvs).map fun l=>(.ow (.list l),env,p.2.2)
theorem JX {X:Cx} {o:Expr} {f:FB} {p1 apos cpos pos1:Pos} (hc:X.calm=true) (ho:PE X o (kY X.K f)) (g1:Gl X "sorted") (m1:X.mg "sorted"=none)
  (he:starEach [.Call (.Attribute o "items" apos) [] [] cpos] X.env=(false,eval (.Call (.Attribute o "items" apos) [] [] cpos) X.env)::starEach [] X.env:=by rfl) (hpl:(backTo pos1 (starEach [] X.env)).any (·.1)=false:=by rfl)
  (hbase:attributeBase o "items" X.env (eval o X.env)=eval o X.env:=by rfl) (hline:(apos.endLine==cpos.line)=true:=by rfl):
  PE X (.Call (.Name "sorted" p1) [.Call (.Attribute o "items" apos) [] [] cpos] [] pos1) (tE X.K (zN f)):=(JW hc ho g1 m1 he hpl hbase hline).weak fun σ H Q aP=>by
 obtain ⟨Z,Θ,env,C,r,env',C',S,hf,q⟩:=aP
 refine hide fun GG gg=>?_
 obtain ⟨⟨d,e1,C1⟩,h1,hf⟩:=Option.bind_eq_some_iff.mp hf
 obtain ⟨kvs,hd,hf⟩:=Option.bind_eq_some_iff.mp hf
 obtain ⟨l,hl,hf⟩:=Option.map_eq_some_iff.mp hf
 obtain ⟨fH,hk,hl⟩:=Option.bind_eq_some_iff.mp hl
 obtain ⟨p,hp,hl⟩:=Option.bind_eq_some_iff.mp hl
 split at hl
 case isFalse=>cases hl
 rename_i hall
 cases hl
 cases hf
 cases NK hd
 have pos:0 < fH.length:=by
  cases fH with
  | nil=>cases hp
  | cons _ _=>exact Nat.succ_pos _
 refine gg ⟨Z,Θ,env,C,.dict kvs,e1,C1,S,h1,fun v H1 k f S1 b1=>?_⟩
 refine hide fun G2 g2=>?_
 obtain ⟨a,vs,rfl,da,rr⟩:=b1.dct
 rcases da with ⟨ks,a1,a2⟩ | ⟨ks,⟨ne,a1⟩,a2⟩
 ·obtain ⟨e2,e3⟩:=CQ hk a1 rr
  rw [e2] at a2
  refine g2 ⟨a,fH,eU p.1,eU p.2,rfl,a2,hall.1,pos,hall.2,fun l rows H2 sm hn hl hr hin=>?_⟩
  have kp:bK Θ H H2:=k.trans (bK.of sm)
  have SD:=S.uT (k.none hn) kp ⟨_,hl,fun _ z=>nomatch z⟩ ⟨S1.cell.len,fun n b ns e2 e3=>sm _ _ (S1.cell.at_ n b ns e2 e3)⟩
  have es:(rows.map fun r=>PyData.tuple (r.2.map xT))=QK (kvs.map fun p=>.tuple [p.1,p.2]):=by
   unfold QK
   rw [e3,List.map_map]
   have:(fH.map (xU ∘ fun p=>PyData.tuple [xT p.1,xT p.2]))=fH.map fun p=>[p.1,p.2]:=by
    refine List.map_congr_left fun q _=>?_
    show (keysOf ([q.1,q.2].map xT)).getD []=[q.1,q.2]
    rw [u0]
    rfl
   rw [this,←hr,List.map_map]
   rfl
  refine q _ H2 kp (Fz.refl _) ⟨l,rfl,k.none hn,SD,_,hl,?_⟩
  rw [←es]
  exact u5 fun r m=>uL SD (hin r m)
 ·exfalso
  cases kvs with
  | nil=>exact ne rfl
  | cons q r=>
   obtain ⟨k',e1,_⟩:=Option.bind_eq_some_iff.mp hk
   unfold cC at a1
   split at a1
   ·rename_i g1 _
    exact Mr e1 g1
   ·cases a1
end L2
namespace L2
open PySem PySem.Spec PyProof.Rows PySem.W
noncomputable def CT (ks:List (List Key)):Nat:=argBest (fun i j=>gn (ks.getD i (ks.headD [])) (ks.getD j (ks.headD []))) (ks.length - 1)
theorem FZ (rows:List Row):argBest (gG rows) (rows.length - 1)=CT (rows.map (·.2)):=by
 have e:gG rows=fun i j=>gn ((rows.map (·.2)).getD i ((rows.map (·.2)).headD [])) ((rows.map (·.2)).getD j ((rows.map (·.2)).headD [])):=by
  funext i j
  rw [gG,qp,qp]
 unfold CT
 rw [e,List.length_map]
noncomputable def Ga (ds:List PyData):Option Vl:=ds.head?.bind fun d0=>(QJ d0).bind fun sh=>if ∀d∈ds,QJ d=some sh then (ds[CT (ds.map xU)]?).map .im else none
noncomputable def zO:List PyData→Option Vl
 | [.list ds]=>Ga ds
 | _=>none
theorem Q8 {K:PySem.W.Frag}:Mu K (fun xs H Q=>∃(p:Addr) (rows:List Row) (sh:List Bool),xs=[.ref p]∧cZ K H p (rows.map fun r=>V.ref r.1)∧0 < rows.length∧(∀r∈rows,H r.1=some (.tup (r.2.map kV))∧r.2.map eU=sh)∧
  ∀r,rows[argBest (gG rows) (rows.length - 1)]?=some r→Q (.ref r.1) H) zO:=by
 intro Z Θ env C σ H xs ds res S b e Q q
 refine hide fun GG gg=>?_
 unfold zO at e
 split at e
 case h_2=>cases e
 rename_i ds
 obtain ⟨d0,h0,e⟩:=Option.bind_eq_some_iff.mp e
 obtain ⟨sh,_,e⟩:=Option.bind_eq_some_iff.mp e
 split at e
 case isFalse=>cases e
 rename_i hall
 obtain ⟨d,hd,rfl⟩:=Option.map_eq_some_iff.mp e
 obtain ⟨v,rfl,bb⟩:=qF b
 obtain ⟨a,vs,rfl,ha,r⟩:=bb.lst
 obtain ⟨rows,rfl,e2,e3⟩:=Cd hall r
 have ek:ds.map xU=rows.map (·.2):=by
  rw [e2,List.map_map]
  refine List.map_congr_left fun r _=>?_
  show (keysOf (r.2.map xT)).getD []=r.2
  rw [u0]
  rfl
 rw [ek,←FZ] at hd
 refine gg ⟨a,rows,sh,rfl,cZ.of ha,?_,fun r m=>⟨bw (e3 r m).1,(e3 r m).2⟩,fun r hr=>?_⟩
 ·cases rows with
  | nil=>rw [e2] at h0; cases h0
  | cons _ _=>exact Nat.succ_pos _
 ·have m:=List.mem_of_getElem? hr
  have hd':d=.tuple (r.2.map xT):=by
   rw [e2,List.getElem?_map,hr] at hd
   exact (Option.some.inj hd).symm
  obtain ⟨u,t,e4,q4,_⟩:=u5 (E:=er (aK Z Θ env σ) H) (rows:=[r]) fun x hx=>by rw [List.mem_singleton.mp hx]; exact (e3 r m).1
  cases e4
  refine q _ H (bK.refl _ _) ⟨S,?_⟩
  rw [hd']
  exact q4
end L2
namespace L2
open PySem PySem.Spec PyProof.Rows PySem.W
noncomputable def Vo:PyData→Bool
 | .list _=>true
 | .tuple _=>true
 | _=>false
theorem yp {X:Cx} (hg:X.A.guards=some []) (hu:X.A.units + 64 < cLine):dZ X (.type "str") (fun xs H Q=>∃v d,xs=[v]∧Vo d=true∧RD X.K H d v∧d.showable=true∧d.depth≤60∧d.shown.length≤sizeLine∧Q (.str d.shown) H):=by
 intro pins s σ H xs us Q I r h
 obtain ⟨v,d,rfl,hq,hd,hs,acP,hz,q⟩:=h
 obtain ⟨u,rfl,ru⟩:=vals1 r
 obtain ⟨as,R⟩:=hd.reads I ru
 have ha:∃a,v=.ref a:=by
  cases d <;> first | cases hq | skip
  all_goals
   obtain ⟨a,vs,e1,_,_⟩:=hd
   exact ⟨a,e1⟩
 obtain ⟨a,rfl⟩:=ha
 cases ru
 exact str_of_reads R hs (PyData.noDict_hsm hd.nodict) hg (by omega) (fun _ _ e=>e) (fun h' u tk hk=>⟨.str _,H,I.kept hk,⟨_,rfl⟩,q⟩) hz
noncomputable def zP (ds:List PyData):Option Vl:=ds.head?.bind fun d=>if Vo d then M8 ds else none
theorem HS {K:PySem.W.Frag}:Mu K (fun xs H Q=>∃v d,xs=[v]∧Vo d=true∧RD K H d v∧d.showable=true∧d.depth≤60∧d.shown.length≤sizeLine∧Q (.str d.shown) H) zP:=by
 intro Z Θ env C σ H xs ds res S b e Q q
 obtain ⟨d,hd,e⟩:=Option.bind_eq_some_iff.mp e
 split at e
 case isFalse=>cases e
 rename_i hq
 unfold M8 at e
 split at e
 case h_2=>cases e
 rename_i d'
 cases hd
 split at e
 case isFalse=>cases e
 rename_i h
 cases e
 rw [Bool.and_eq_true,Bool.and_eq_true,Bool.and_eq_true,decide_eq_true_iff,decide_eq_true_iff] at h
 obtain ⟨v,rfl,bb⟩:=qF b
 exact ⟨v,d,rfl,hq,(bb.rx h.1.1.1).rd,h.1.1.2,h.1.2,dH h.2,q _ H (bK.refl _ _) (bu S rfl rfl)⟩
end L2
namespace L2
open PySem PySem.Spec PyProof.Rows PySem.W
noncomputable def Bl (L:Nat) (C:Ce) (b k:Nat):Prop:=C.length=L∧∃x y z:Int,C[b]?=some [x,y,z]∧0≤x∧0≤z∧z + k≤900000
theorem Bl.mono {L:Nat} {C:Ce} {b k j:Nat} (h:Bl L C b k) (hj:j≤k):Bl L C b j:=by
 obtain ⟨l,x,y,z,h1,h2,h5,h6⟩:=h
 exact ⟨l,x,y,z,h1,h2,h5,by omega⟩
theorem Bl.dec {L:Nat} {C:Ce} {b k:Nat} (h:Bl L C b (k + 1)):Bl L C b k:=h.mono (Nat.le_succ k)
theorem Bl.eq {L:Nat} {C C':Ce} {b b' k k':Nat} (h:Bl L C b k) (h':Bl L C' b' k'):C'.length=C.length:=h'.1.trans h.1.symm
theorem Vp (C:Ce) {x y:Int} (h0:0≤x):Bl (C.length + 1) (C++[[x,y,0]]) C.length 800000:=by
 refine ⟨by simp,x,y,0,?_,h0,Int.le_refl _,by omega⟩
 rw [List.getElem?_append_right (Nat.le_refl _),Nat.sub_self]
 rfl
end L2
namespace L2
open PySem PySem.Spec PyProof.Rows PySem.W
theorem vB {n s u f i j:Int} (hu:s * u % n=1) (n0:0 < n) (hi:0≤i) (hj:0≤j) (hi':i < n) (hj':j < n) (e:(f + s * i) % n=(f + s * j) % n):i=j:=by
 have h1:(f + s * i - (f + s * j)) % n=0:=Int.emod_eq_emod_iff_emod_sub_eq_zero.mp e
 obtain ⟨d,hd⟩:=Int.dvd_of_emod_eq_zero h1
 have hq:s * u=n * (s * u / n) + 1:=by
  have:=Int.mul_ediv_add_emod (s * u) n
  rw [hu] at this
  exact this.symm
 generalize s * u / n=q at hq
 have key:i - j=n * (u * d - q * (i - j)):=by grind
 have h2:(i - j) % n=0:=Int.emod_eq_zero_of_dvd ⟨_,key⟩
 have h3:i % n=j % n:=Int.emod_eq_emod_iff_emod_sub_eq_zero.mpr h2
 rw [Int.emod_eq_of_lt hi hi',Int.emod_eq_of_lt hj hj'] at h3
 exact h3
noncomputable def CV (s:Int):Prop:=(0 < s∧s≤675)∧(∃u,s * u % 676=1)∧∃u,s * u % 26=1
theorem step_at {k:Int} (h0:0≤k) (h1:k < 6):∃s,iD [PyData.int 1,.int 3,.int 5,.int 7,.int 25,.int 675] k=some (.int s)∧CV s:=by
 have hk:k=0∨k=1∨k=2∨k=3∨k=4∨k=5:=by omega
 rcases hk with rfl | rfl | rfl | rfl | rfl | rfl
 ·exact ⟨1,rfl,by decide,⟨1,by decide⟩,⟨1,by decide⟩⟩
 ·exact ⟨3,rfl,by decide,⟨451,by decide⟩,⟨9,by decide⟩⟩
 ·exact ⟨5,rfl,by decide,⟨541,by decide⟩,⟨21,by decide⟩⟩
 ·exact ⟨7,rfl,by decide,⟨483,by decide⟩,⟨15,by decide⟩⟩
 ·exact ⟨25,rfl,by decide,⟨649,by decide⟩,⟨25,by decide⟩⟩
 ·exact ⟨675,rfl,by decide,⟨675,by decide⟩,⟨25,by decide⟩⟩
theorem zQ {z:Str} {l:List Nat} (e:z.cps.toList=l) (h1:1≤l.length) (h2:l.length≤8) (h3:∀c∈l,97≤c∧c≤122):nameB z=true:=by
 have e2:z.length=l.length:=by rw [←e]; show z.cps.size=_; simp
 unfold nameB ZL
 rw [e,e2]
 simp only [Bool.and_eq_true,decide_eq_true_eq,List.all_eq_true]
 exact ⟨⟨h1,h2⟩,h3⟩
theorem gY {α:Type} {f:Nat→α} {n:Nat} (h:∀i j,i < n→j < n→f i=f j→i=j):((List.range n).map f).Nodup:=by
 rw [List.nodup_iff_pairwise_ne,List.pairwise_map]
 refine List.Pairwise.imp_of_mem (R:=(· < ·)) (fun {a b} ha hb hab e=>?_) List.pairwise_lt_range
 have:=h a b (List.mem_range.mp ha) (List.mem_range.mp hb) e
 omega
noncomputable def n1 (f s:Int) (k:Nat):Str:=⟨#[97 + ((f + s * k) % 26).toNat]⟩
theorem NP {f s:Int} {n:Nat} (hs:CV s) (hn:n≤26):Names ((List.range n).map (n1 f s)):=by
 refine ⟨gY fun i j hi hj e=>?_,fun z hz=>?_⟩
 ·obtain ⟨_,_,u,hu⟩:=hs
  have e1:97 + ((f + s * i) % 26).toNat=97 + ((f + s * j) % 26).toNat:=by
   have:=congrArg (fun z:Str=>z.cps.toList) e
   simpa [n1] using this
  have a1:0≤(f + s * i) % 26:=Int.emod_nonneg _ (by decide)
  have a2:0≤(f + s * j) % 26:=Int.emod_nonneg _ (by decide)
  have:=vB (n:=26) (f:=f) (i:=i) (j:=j) hu (by decide) (by omega) (by omega) (by omega) (by omega) (by omega)
  omega
 ·obtain ⟨k,_,rfl⟩:=List.mem_map.mp hz
  have a1:0≤(f + s * k) % 26:=Int.emod_nonneg _ (by decide)
  have a2:(f + s * k) % 26 < 26:=Int.emod_lt_of_pos _ (by decide)
  refine zQ (l:=[97 + ((f + s * k) % 26).toNat]) rfl (Nat.le_refl _) (by show 1≤8; decide) fun c hc=>?_
  rw [List.mem_singleton.mp hc]
  omega
noncomputable def v2 (f s:Int) (k:Nat):Int:=(f + s * k) % 676
noncomputable def two (v:Int):Str:=(⟨#[97 + (v / 26).toNat]⟩:Str)++(⟨#[97 + (v % 26).toNat]⟩:Str)
noncomputable def n2 (hd tl:Str) (f s:Int) (q:Nat→Int) (k:Nat):Str:=hd++two (v2 f s k)++Txt.slice tl none (some (q k))
theorem CW (hd tl:Str) (f s:Int) (q:Nat→Int) (k:Nat):(n2 hd tl f s q k).cps.toList=hd.cps.toList++([97 + (v2 f s k / 26).toNat,97 + (v2 f s k % 26).toNat]++(Txt.slice tl none (some (q k))).cps.toList):=by
 show ((hd.cps++(#[97 + (v2 f s k / 26).toNat]++#[97 + (v2 f s k % 26).toNat]))++(Txt.slice tl none (some (q k))).cps).toList=_
 simp
theorem NQ {hd tl:Str} {f s:Int} {q:Nat→Int} {n:Nat} (hs:CV s) (hn:n≤36) (hh:hd.length≤3) (ht:tl.length≤3) (ch:∀c∈hd.cps.toList,97≤c∧c≤122) (ct:∀c∈tl.cps.toList,97≤c∧c≤122):Names ((List.range n).map (n2 hd tl f s q)):=by
 have b:∀k:Nat,0≤v2 f s k∧v2 f s k < 676:=fun k=>⟨Int.emod_nonneg _ (by decide),Int.emod_lt_of_pos _ (by decide)⟩
 refine ⟨gY fun i j hi hj e=>?_,fun z hz=>?_⟩
 ·obtain ⟨_,⟨u,hu⟩,_⟩:=hs
  have e1:=congrArg (fun z:Str=>z.cps.toList) e
  simp only [CW] at e1
  have e2:=List.append_cancel_left e1
  rw [List.cons_append,List.cons_append,List.nil_append,List.cons_append,List.cons_append,List.nil_append] at e2
  injection e2 with e3 e4
  injection e4 with e5 _
  have b1:=b i
  have b2:=b j
  have ev:v2 f s i=v2 f s j:=by omega
  have:=vB (n:=676) (f:=f) (i:=i) (j:=j) hu (by decide) (by omega) (by omega) (by omega) (by omega) ev
  omega
 ·obtain ⟨k,_,rfl⟩:=List.mem_map.mp hz
  have bk:=b k
  have l1:hd.cps.toList.length=hd.length:=by show _=hd.cps.size; simp
  have l2:(Txt.slice tl none (some (q k))).cps.toList.length=(Txt.slice tl none (some (q k))).length:=by show _=(Txt.slice tl none (some (q k))).cps.size; simp
  have l3:=PyProof.Txt.length_slice_le tl none (some (q k))
  refine zQ (CW hd tl f s q k) (by rw [List.length_append,List.length_append]; show 1≤_ + (2 + _); omega) (by rw [List.length_append,List.length_append,l1,l2]; show _ + (2 + _)≤8; omega) fun c hc=>?_
  rcases List.mem_append.mp hc with hc | hc
  ·exact ch c hc
  ·rcases List.mem_append.mp hc with hc | hc
   ·simp only [List.mem_cons,List.not_mem_nil,or_false] at hc
    rcases hc with rfl | rfl <;> omega
   ·exact ct c (QS hc)
noncomputable def gK (f:Int):List Nat:=(List.range 8).map fun (k:Nat)=>97 + ((f + 5 * (k:Int)) % 26).toNat
noncomputable def sl (z:Str) (n k:Nat):Str:=Txt.slice z (some (k:Int)) (some ((k:Int) + (n:Int)))
noncomputable def sb (z:Str) (n:Nat):List Str:=(List.range (8 - n)).map (sl z (n + 1))
noncomputable def subs (z:Str) (m:Nat):List Str:=(List.range m).flatMap (sb z)
theorem vC {z:Str} {n k:Nat} (hz:z.length=8) (h:k + n≤8):(sl z n k).cps.toList=(z.cps.toList.drop k).take n:=by
 have:=eq_of_beq (slice_closesL (x:=z) (i:=(k:Int)) (j:=(k:Int) + (n:Int)) (by omega) (by omega) (by omega))
 unfold sl
 rw [this]
 show ((z.cps.toList.drop (k:Int).toNat).take ((k:Int) + (n:Int) - (k:Int)).toNat)=_
 rw [show ((k:Int) + (n:Int) - (k:Int)).toNat=n by omega,Int.toNat_natCast]
theorem HW {f:Int} {k:Nat} (h:k < 8):(gK f)[k]?=some (97 + ((f + 5 * (k:Int)) % 26).toNat):=by
 unfold gK
 rw [List.getElem?_map,List.getElem?_range h]
 rfl
theorem Q9 (f:Int):∀c∈gK f,97≤c∧c≤122:=fun c hc=>by
 obtain ⟨k,_,rfl⟩:=List.mem_map.mp hc
 have a1:0≤(f + 5 * (k:Int)) % 26:=Int.emod_nonneg _ (by decide)
 have a2:(f + 5 * (k:Int)) % 26 < 26:=Int.emod_lt_of_pos _ (by decide)
 omega
theorem Gb {z:Str} {f:Int} (hz:z.cps.toList=gK f) {n:Nat} {x:Str} (hx:x∈sb z n):∃k,k < 8 - n∧x=sl z (n + 1) k∧x.cps.toList=((gK f).drop k).take (n + 1)∧x.cps.toList.length=n + 1:=by
 obtain ⟨k,hk,rfl⟩:=List.mem_map.mp hx
 have hk:=List.mem_range.mp hk
 have hl:z.length=8:=by
  have:=congrArg List.length hz
  rw [show z.cps.toList.length=z.length by show _=z.cps.size; simp] at this
  rw [this]
  simp [gK]
 have e:=vC (z:=z) (n:=n + 1) (k:=k) hl (by omega)
 rw [hz] at e
 refine ⟨k,hk,rfl,e,?_⟩
 rw [e,List.length_take,List.length_drop,show (gK f).length=8 by simp [gK]]
 omega
theorem Gd {z:Str} {f:Int} (hz:z.cps.toList=gK f):Names (subs z 8):=by
 refine ⟨?_,fun x hx=>?_⟩
 ·unfold subs
  rw [List.nodup_iff_pairwise_ne,List.pairwise_flatMap]
  refine ⟨fun n hn=>?_,?_⟩
  ·have hn:=List.mem_range.mp hn
   rw [←List.nodup_iff_pairwise_ne]
   refine gY fun i j hi hj e=>?_
   have hl:z.length=8:=by
    have:=congrArg List.length hz
    rw [show z.cps.toList.length=z.length by show _=z.cps.size; simp] at this
    rw [this]
    simp [gK]
   have e1:=congrArg (fun z:Str=>z.cps.toList[0]?) e
   simp only [vC (z:=z) (n:=n + 1) (k:=i) hl (by omega),vC (z:=z) (n:=n + 1) (k:=j) hl (by omega),hz] at e1
   rw [List.getElem?_take_of_lt (Nat.succ_pos n),List.getElem?_take_of_lt (Nat.succ_pos n),List.getElem?_drop,List.getElem?_drop,Nat.add_zero,Nat.add_zero,HW (by omega),HW (by omega)] at e1
   have e2:=Option.some.inj e1
   have a1:0≤(f + 5 * (i:Int)) % 26:=Int.emod_nonneg _ (by decide)
   have a2:0≤(f + 5 * (j:Int)) % 26:=Int.emod_nonneg _ (by decide)
   have:=vB (n:=26) (s:=5) (u:=21) (f:=f) (i:=i) (j:=j) (by decide) (by decide) (by omega) (by omega) (by omega) (by omega) (by omega)
   omega
  ·refine List.Pairwise.imp (R:=(· < ·)) (fun {a b} hab x hx y hy e=>?_) List.pairwise_lt_range
   obtain ⟨_,_,_,_,l1⟩:=Gb hz hx
   obtain ⟨_,_,_,_,l2⟩:=Gb hz hy
   rw [e] at l1
   omega
 ·obtain ⟨n,hn,hx⟩:=List.mem_flatMap.mp hx
  have hn:=List.mem_range.mp hn
  obtain ⟨k,hk,_,e,hl⟩:=Gb hz hx
  refine zQ rfl (by omega) (by omega) fun c hc=>?_
  rw [e] at hc
  exact Q9 f c (List.mem_of_mem_drop (List.mem_of_mem_take hc))
theorem CZ (z:Str):(subs z 8).length=36:=by
 unfold subs sb
 simp only [List.length_flatMap,List.length_map,List.length_range]
 rfl
end L2
namespace L2
section
variable {β:Type} [DecidableEq β] {ws:List (Int×β×β)} {s:β}
inductive Ke (ws:List (Int×β×β)):β→List Int→β→Prop
 | nil (p:β):Ke ws p [] p
 | cons {n:Int} {p q s:β} {r:List Int}:(n,p,q)∈ws→Ke ws q r s→Ke ws p (n::r) s
noncomputable def mK (st:List (β×Int)) (p:β):Option Int:=(st.find? fun x=>decide (x.1=p)).map (·.2)
theorem di {st:List (β×Int)} {p:β}:mK st p=none ↔ p∉st.map (·.1):=by
 unfold mK
 rw [Option.map_eq_none_iff,List.find?_eq_none]
 simp only [List.mem_map,not_exists,not_and,decide_eq_true_eq]
theorem tY (st:List (β×Int)) (new:List β) (k:Int) (p:β):mK (st++new.map fun g=>(g,k)) p=if p∈st.map (·.1) then mK st p else if p∈new then some k else none:=by
 unfold mK
 rw [List.find?_append]
 by_cases h:p∈st.map (·.1)
 ·rw [if_pos h]
  obtain ⟨x,hx,rfl⟩:=List.mem_map.mp h
  cases e:st.find? fun y=>decide (y.1=x.1) with
  | none=>exact absurd (decide_eq_true rfl) (List.find?_eq_none.mp e x hx)
  | some y=>rfl
 ·rw [if_neg h,(Option.map_eq_none_iff.mp (di.mpr h):st.find? _=none),Option.none_or]
  induction new with
  | nil=>rfl
  | cons g new ih=>
   rw [List.map_cons,List.find?_cons]
   by_cases e:g=p
   ·subst e
    rw [decide_eq_true rfl,if_pos List.mem_cons_self]
    rfl
   ·rw [decide_eq_false e,ih]
    have:p∈g::new ↔ p∈new:=by rw [List.mem_cons]; exact ⟨fun z=>z.resolve_left fun z=>e z.symm,.inr⟩
    simp only [this]
structure NZ (ws:List (Int×β×β)) (s:β) (st:List (β×Int)) (new:List β) (k:Nat):Prop where
 sound:∀p d,mK st p=some d→d≤k∧∃r,Ke ws p r s∧(r.length:Int)=d
 whole:∀p r,Ke ws p r s→r.length≤k→∃d,mK st p=some d∧d≤r.length
 last:∀p,p∈new ↔ mK st p=some (k:Int)
 nd:(st.map (·.1)).Nodup
 sub:∀p∈st.map (·.1),p=s∨p∈ws.map (·.2.1)
 low:∀p d,mK st p=some d→d + 1≤st.length
theorem NZ.init (ws:List (Int×β×β)) (s:β):NZ ws s [(s,0)] [s] 0 where
 sound p d h:=by
  unfold mK at h
  rw [List.find?_cons] at h
  by_cases e:s=p
  ·subst e
   rw [decide_eq_true rfl] at h
   cases h
   exact ⟨Int.le_refl _,[],.nil _,rfl⟩
  ·rw [decide_eq_false e] at h
   cases h
 whole p r h l:=by
  cases h with
  | nil=>exact ⟨0,by unfold mK; rw [List.find?_cons,decide_eq_true rfl]; rfl,Int.le_refl _⟩
  | cons _ _=>exact absurd l (Nat.not_succ_le_zero _)
 last p:=by
  unfold mK
  rw [List.find?_cons,List.mem_singleton]
  by_cases e:s=p
  ·subst e
   rw [decide_eq_true rfl]
   exact ⟨fun _=>rfl,fun _=>rfl⟩
  ·rw [decide_eq_false e]
   exact ⟨fun z=>absurd z.symm e,fun z=>nomatch z⟩
 nd:=by simp
 sub p hp:=.inl (List.mem_singleton.mp hp)
 low p d h:=by
  unfold mK at h
  rw [List.find?_cons] at h
  by_cases e:s=p
  ·rw [decide_eq_true e] at h
   cases h
   exact Int.le_refl _
  ·rw [decide_eq_false e] at h
   cases h
theorem NZ.step {st:List (β×Int)} {new new':List β} {k:Nat} (B:NZ ws s st new k) (hn:new'.Nodup) (hm:∀g,g∈new' ↔ ∃w∈ws,w.2.2∈new∧w.2.1∉st.map (·.1)∧w.2.1=g):NZ ws s (st++new'.map fun g=>(g,(k:Int) + 1)) new' (k + 1) where
 sound p d h:=by
  rw [tY] at h
  split at h
  ·obtain ⟨h1,h2⟩:=B.sound p d h
   exact ⟨by omega,h2⟩
  ·split at h
   ·rename_i m
    cases h
    refine ⟨by omega,?_⟩
    obtain ⟨w,m1,m2,m3,rfl⟩:=(hm p).mp m
    obtain ⟨_,r,h3,h4⟩:=B.sound _ _ ((B.last _).mp m2)
    exact ⟨w.1::r,.cons (p:=w.2.1) (q:=w.2.2) m1 h3,by rw [List.length_cons]; omega⟩
   ·cases h
 whole p r h l:=by
  rw [tY]
  by_cases hp:p∈st.map (·.1)
  ·rw [if_pos hp]
   cases e:mK st p with
   | none=>exact absurd hp (di.mp e)
   | some d=>
    refine ⟨d,rfl,?_⟩
    by_cases l':r.length≤k
    ·obtain ⟨d',e',h'⟩:=B.whole p r h l'
     rw [e] at e'
     cases e'
     exact h'
    ·have:=(B.sound p d e).1
     omega
  ·rw [if_neg hp]
   cases h with
   | nil=>
    obtain ⟨d,e,_⟩:=B.whole s [] (.nil s) (Nat.zero_le _)
    rw [di.mpr hp] at e
    cases e
   | cons hw hr=>
    rename_i n q r
    rw [List.length_cons] at l ⊢
    obtain ⟨d,e,hd⟩:=B.whole q r hr (by omega)
    obtain ⟨hk,r2,hr2,l2⟩:=B.sound q d e
    by_cases hdk:d=k
    ·subst hdk
     have m:p∈new':=(hm p).mpr ⟨_,hw,(B.last q).mpr e,hp,rfl⟩
     rw [if_pos m]
     exact ⟨_,rfl,by omega⟩
    ·obtain ⟨d',e',_⟩:=B.whole p (n::r2) (.cons hw hr2) (by rw [List.length_cons]; omega)
     rw [di.mpr hp] at e'
     cases e'
 last p:=by
  rw [tY]
  constructor
  ·intro m
   obtain ⟨w,m1,m2,m3,rfl⟩:=(hm p).mp m
   rw [if_neg m3,if_pos m]
   rfl
  ·intro e
   split at e
   ·have:=(B.sound p _ e).1
    omega
   ·split at e
    ·rename_i m
     exact m
    ·cases e
 nd:=by
  rw [List.map_append,List.map_map,show ((fun x:β×Int=>x.1) ∘ fun g=>(g,(k:Int) + 1))=id from rfl,List.map_id]
  refine List.nodup_append.mpr ⟨B.nd,hn,fun a ha b hb e=>?_⟩
  subst e
  obtain ⟨w,_,_,m3,rfl⟩:=(hm a).mp hb
  exact m3 ha
 sub p hp:=by
  rw [List.map_append,List.map_map,show ((fun x:β×Int=>x.1) ∘ fun g=>(g,(k:Int) + 1))=id from rfl,List.map_id] at hp
  rcases List.mem_append.mp hp with hp | hp
  ·exact B.sub p hp
  ·obtain ⟨w,m1,_,_,rfl⟩:=(hm p).mp hp
   exact .inr (List.mem_map.mpr ⟨w,m1,rfl⟩)
 low p d h:=by
  rw [tY] at h
  rw [List.length_append,List.length_map]
  split at h
  ·have:=B.low p d h
   omega
  ·split at h
   ·rename_i m
    cases h
    obtain ⟨w,m1,m2,m3,rfl⟩:=(hm p).mp m
    have:=B.low _ _ ((B.last _).mp m2)
    have:=List.length_pos_of_mem m
    omega
   ·cases h
theorem len_sub:∀{l m:List β},l.Nodup→(∀x∈l,x∈m)→l.length≤m.length
 | [],_,_,_=>Nat.zero_le _
 | a::l,m,hn,h=>by
  have ha:=h a List.mem_cons_self
  have:=len_sub (m:=m.erase a) (List.nodup_cons.mp hn).2 fun x hx=>(List.mem_erase_of_ne (show x≠a from fun z=>(List.nodup_cons.mp hn).1 (z ▸ hx))).mpr (h x (List.mem_cons_of_mem _ hx))
  rw [List.length_erase_of_mem ha] at this
  have:=List.length_pos_of_mem ha
  rw [List.length_cons]
  omega
theorem NZ.few {st:List (β×Int)} {new:List β} {k:Nat} (B:NZ ws s st new k):st.length≤ws.length + 1:=by
 have h:(st.map (·.1)).length≤(s::ws.map (·.2.1)).length:=by
  refine len_sub B.nd fun p hp=>?_
  rcases B.sub p hp with rfl | h
  ·exact List.mem_cons_self
  ·exact List.mem_cons_of_mem _ h
 simpa using h
structure Ra (ws:List (Int×β×β)) (s:β) (st:List (β×Int)):Prop where
 sound:∀p d,mK st p=some d→∃r,Ke ws p r s∧(r.length:Int)=d
 whole:∀p r,Ke ws p r s→∃d,mK st p=some d∧d≤r.length
 few:∀p d,mK st p=some d→d≤ws.length
theorem NZ.done {st:List (β×Int)} {k:Nat} (B:NZ ws s st [] k):Ra ws s st where
 sound p d h:=(B.sound p d h).2
 few p d h:=by
  have:=B.low p d h
  have:=B.few
  omega
 whole p r h:=by
  induction h with
  | nil p=>exact B.whole p [] (.nil p) (Nat.zero_le _)
  | cons hw hr ih=>
   rename_i n p q s' r
   obtain ⟨d,e,hd⟩:=ih B
   obtain ⟨hk,r2,hr2,l2⟩:=B.sound q d e
   have:d≠k:=fun z=>by
    subst z
    exact nomatch (B.last q).mpr e
   obtain ⟨d',e',h'⟩:=B.whole p (n::r2) (.cons hw hr2) (by rw [List.length_cons]; omega)
   refine ⟨d',e',?_⟩
   rw [List.length_cons] at h' ⊢
   omega
theorem Ra.self {st:List (β×Int)} (B:Ra ws s st):mK st s=some 0:=by
 obtain ⟨d,e,h⟩:=B.whole s [] (.nil s)
 obtain ⟨r,_,l⟩:=B.sound s d e
 rw [e]
 simp only [List.length_nil] at h
 congr 1
 omega
theorem Ra.iff {st:List (β×Int)} (B:Ra ws s st) (p:β):p∈st.map (·.1) ↔ ∃r,Ke ws p r s:=by
 constructor
 ·intro h
  cases e:mK st p with
  | none=>exact absurd h (di.mp e)
  | some d=>
   obtain ⟨r,h,_⟩:=B.sound p d e
   exact ⟨r,h⟩
 ·rintro ⟨r,h⟩
  obtain ⟨d,e,_⟩:=B.whole p r h
  apply Classical.byContradiction
  intro n
  rw [di.mpr n] at e
  cases e
noncomputable def lexLe:List Int→List Int→Prop
 | [],_=>True
 | _::_,[]=>False
 | a::r,b::q=>a < b∨(a=b∧lexLe r q)
theorem vD:∀{r q:List Int},r.length=q.length→lexLe r q→lexLe q r→r=q
 | [],[],_,_,_=>rfl
 | a::r,b::q,l,h,h'=>by
  have e:a=b:=by rcases h with h | h <;> rcases h' with h' | h' <;> omega
  subst e
  rw [vD (Nat.succ.inj l) (h.resolve_left (by omega)).2 (h'.resolve_left (by omega)).2]
noncomputable def jc (ws:List (Int×β×β)) (p s:β) (r:List Int):Prop:=Ke ws p r s∧∀r',Ke ws p r' s→r.length < r'.length∨(r.length=r'.length∧lexLe r r')
theorem jc.unique {p:β} {r r':List Int} (h:jc ws p s r) (h':jc ws p s r'):r=r':=by
 rcases h.2 r' h'.1 with l | ⟨l,a⟩
 ·rcases h'.2 r h.1 with l' | ⟨l',_⟩ <;> omega
 ·rcases h'.2 r h.1 with l' | ⟨_,b⟩
  ·omega
  ·exact vD l a b
theorem jc.self (ws:List (Int×β×β)) (s:β):jc ws s s []:=⟨.nil s,fun r' _=>by
 cases r' with
 | nil=>exact .inr ⟨rfl,trivial⟩
 | cons _ _=>exact .inl (Nat.succ_pos _)⟩
theorem jc.go {p q:β} {n d:Int} {r:List Int} {st:List (β×Int)} (hU:∀w∈ws,∀w'∈ws,w.1=w'.1→w=w') (B:Ra ws s st) (hp:mK st p=some d) (hw:(n,p,q)∈ws) (hq:∃e,mK st q=some e∧e < d) (hmin:∀n' q' e,(n',p,q')∈ws→mK st q'=some e→e < d→n≤n') (hr:jc ws q s r):jc ws p s (n::r):=by
 obtain ⟨e,hq,hlt⟩:=hq
 obtain ⟨r1,hr1,l1⟩:=B.sound q e hq
 have hle:r.length≤r1.length:=by rcases hr.2 r1 hr1 with h | h <;> omega
 refine ⟨.cons hw hr.1,fun r' h'=>?_⟩
 obtain ⟨d',e',hd'⟩:=B.whole p r' h'
 rw [hp] at e'
 cases e'
 rw [List.length_cons]
 cases h' with
 | nil=>
  simp only [List.length_nil] at hd'
  omega
 | cons hw' hr'=>
  rename_i n' q' r'
  rw [List.length_cons] at hd' ⊢
  obtain ⟨e2,h2,l2⟩:=B.whole q' r' hr'
  by_cases hl:r.length < r'.length
  ·exact .inl (by omega)
  ·refine .inr ⟨by omega,?_⟩
   have hn:=hmin n' q' e2 hw' h2 (by omega)
   by_cases hnn:n < n'
   ·exact .inl hnn
   ·have:n=n':=by omega
    subst this
    have:=hU _ hw _ hw' rfl
    cases this
    refine .inr ⟨rfl,?_⟩
    rcases hr.2 r' hr' with h | h
    ·omega
    ·exact h.2
end
end L2
namespace ZS
open PySem L2
noncomputable def top (i:Nat):Stmt:=PySem.Challenge.pw_rankseals_k13_leaves_that_let_one_step.main.body.getD i (.Pass ⟨0,0,0,0⟩)
noncomputable abbrev cW:Stmt:=top 1
theorem gC:bV (["house","part","outer","over"]:List Str) (["house","part"]:List Str) (aD cW):=⟨rfl,rfl,rfl,by decide +kernel,rfl,by decide +kernel,by decide +kernel⟩
noncomputable abbrev j5:Stmt:=top 3
theorem JZ:bV (["house","paper","holder","signer","day"]:List Str) (["house","paper","holder","signer","day"]:List Str) (aD j5):=⟨rfl,rfl,rfl,by decide +kernel,rfl,by decide +kernel,by decide +kernel⟩
noncomputable abbrev iH:Stmt:=top 4
theorem Ge:bV (["paper","person"]:List Str) (["paper","person"]:List Str) (aD iH):=⟨rfl,rfl,rfl,by decide +kernel,rfl,by decide +kernel,by decide +kernel⟩
noncomputable abbrev gr:Stmt:=top 5
theorem vG:bV (["house","paper","day","over"]:List Str) (["house","paper","day"]:List Str) (aD gr):=⟨rfl,rfl,rfl,by decide +kernel,rfl,by decide +kernel,by decide +kernel⟩
noncomputable abbrev fJ:Stmt:=top 6
theorem fY:bV (["ways","holder","signer","steps","row","number"]:List Str) (["ways","holder","signer"]:List Str) (aD fJ):=⟨rfl,rfl,rfl,by decide +kernel,rfl,by decide +kernel,by decide +kernel⟩
noncomputable abbrev cX:Stmt:=top 7
theorem wH:bV (["ways","steps","person"]:List Str) (["ways","steps","person"]:List Str) (aD cX):=⟨rfl,rfl,rfl,by decide +kernel,rfl,by decide +kernel,by decide +kernel⟩
noncomputable abbrev fj:Stmt:=top 8
theorem dM:bV (["ways","signer","steps","newest","many","person"]:List Str) (["ways","signer"]:List Str) (aD fj):=⟨rfl,rfl,rfl,by decide +kernel,rfl,by decide +kernel,by decide +kernel⟩
noncomputable abbrev rO:Stmt:=top 10
theorem HX:bV (["_law_cell","_law_k","_law_m"]:List Str) (["_law_cell","_law_k"]:List Str) (aD rO):=⟨rfl,rfl,rfl,by decide +kernel,rfl,by decide +kernel,by decide +kernel⟩
noncomputable abbrev dj:Stmt:=top 11
theorem nC:bV (["_law_script","_law_k","_law_cell"]:List Str) (["_law_script","_law_k"]:List Str) (aD dj):=⟨rfl,rfl,rfl,by decide +kernel,rfl,by decide +kernel,by decide +kernel⟩
noncomputable abbrev ou:Stmt:=top 12
theorem Dc:bV (["_law_left","_law_many","_law_digit"]:List Str) (["_law_left","_law_many"]:List Str) (aD ou):=⟨rfl,rfl,rfl,by decide +kernel,rfl,by decide +kernel,by decide +kernel⟩
noncomputable abbrev jw:Stmt:=top 13
theorem N5:bV (["_law_found","_law_due"]:List Str) (["_law_found","_law_due"]:List Str) (aD jw):=⟨rfl,rfl,rfl,by decide +kernel,rfl,by decide +kernel,by decide +kernel⟩
noncomputable abbrev bO:Stmt:=top 14
theorem aY:bV (["_law_left","_law_many","_law_letters","_law_head","_law_tail","_law_first","_law_by","_law_stem","_law_found","_law_size","_law_k","_law_value","_law_two"]:List Str) (["_law_left","_law_many"]:List Str) (aD bO):=⟨rfl,rfl,rfl,by decide +kernel,rfl,by decide +kernel,by decide +kernel⟩
noncomputable abbrev dm:Stmt:=top 15
theorem fZ:bV (["_law_left","_law_names","_law_found","_law_k","_law_name"]:List Str) (["_law_left","_law_names"]:List Str) (aD dm):=⟨rfl,rfl,rfl,by decide +kernel,rfl,by decide +kernel,by decide +kernel⟩
noncomputable abbrev dw:Stmt:=top 16
theorem jd:bV (["_law_parts","_law_part","_law_found"]:List Str) (["_law_parts","_law_part"]:List Str) (aD dw):=⟨rfl,rfl,rfl,by decide +kernel,rfl,by decide +kernel,by decide +kernel⟩
noncomputable abbrev iI:Stmt:=top 17
theorem lC:bV (["_law_left","_law_many","_law_found","_law_last","_law_k"]:List Str) (["_law_left","_law_many"]:List Str) (aD iI):=⟨rfl,rfl,rfl,by decide +kernel,rfl,by decide +kernel,by decide +kernel⟩
noncomputable abbrev fK:Stmt:=top 18
theorem zR:bV (["_law_parts","_law_leaves"]:List Str) (["_law_parts","_law_leaves"]:List Str) (aD fK):=⟨rfl,rfl,rfl,by decide +kernel,rfl,by decide +kernel,by decide +kernel⟩
noncomputable abbrev oA:Stmt:=top 19
theorem N6:bV (["_law_parts","_law_paper","_law_day","_law_leave"]:List Str) (["_law_parts","_law_paper","_law_day","_law_leave"]:List Str) (aD oA):=⟨rfl,rfl,rfl,by decide +kernel,rfl,by decide +kernel,by decide +kernel⟩
noncomputable abbrev cY:Stmt:=top 20
theorem aO:bV (["_law_left","_law_names","_law_parts","_law_paper","_law_day","_law_leaves","_law_number","_law_turned","_law_days","_law_part","_law_both","_law_house","_law_kept","_law_some","_law_holder","_law_signer","_law_fine","_law_due"]:List Str) (["_law_left"]:List Str) (aD cY):=⟨rfl,rfl,rfl,by decide +kernel,rfl,by decide +kernel,by decide +kernel⟩
noncomputable abbrev qP:Stmt:=top 21
theorem zT:bV (["_law_script","_law_k","_law_left","_law_turn"]:List Str) (["_law_script"]:List Str) (aD qP):=⟨rfl,rfl,rfl,by decide +kernel,rfl,by decide +kernel,by decide +kernel⟩
structure Txt (K:PySem.W.Frag) (mg:Str→Option Value):Prop where
 yq:mg "abs"=none
 Dd:mg "all"=none
 pM:mg "bool"=none
 gM:mg "enumerate"=none
 vH:mg "int"=none
 aW:mg "isinstance"=none
 oZ:mg "len"=none
 pN:mg "list"=none
 yr:mg "min"=none
 dD:mg "range"=none
 j6:mg "sorted"=none
 qQ:mg "str"=none
 iC:mg "tuple"=none
 De:mg "zip"=none
@[reducible] noncomputable def mq:FT:=(fTst (aC jY (aA 1) (aA 2)))
@[reducible] noncomputable def mC:FS:=(fSeq (oM 3 (fVar 1)) (fSet 1 (aC aZ (aA 2) (aA 1))))
@[reducible] noncomputable def gZ:FE:=(fVar 0)
@[reducible] noncomputable def g8:FE:=(fVar 1)
@[reducible] noncomputable def lD:FS:=(fSeq (fSet 2 (Xj (iB2 (au (aC aZ (aA 0) (au (fCst (.int 0)))))) (.many 2) gH gZ g8 [])) (fSeq (fSet 3 (fLst aNil)) (fSeq (QB mq mC) (fRetV 3))))
noncomputable def gb:FN:=fN 2 4 lD
@[reducible] noncomputable def rP:FS:=(fRet (aC jY (aA 1) (au (oV (aA 0) (n6 (au (fCst (.int 2)))) (n6 (au (fCst (.int 4))))))))
noncomputable def dO:FN:=fN 2 2 rP
@[reducible] noncomputable def lF:FT:=(ir (fTst (aC jY (aA 3) (aA 7))) (ir (fTst (Bo rC rC (aA 4) (aA 8) (aA 5))) (ir (fTst (aC rC (au (aC aZ (aA 9) (au (fCst (.int 1))))) (aA 6))) (ir (qy (fTru (au (fCal dO (aCons (fVar 9) (aCons (fVar 1) aNil)))))) (qy (fTru (au (fCal dO (aCons (fVar 9) (aCons (fVar 2) aNil))))))))))
@[reducible] noncomputable def lG:FE:=(fTup (aCons (fVar 0) (aCons (fVar 1) (aCons (fVar 2) aNil))))
@[reducible] noncomputable def rQ:FS:=(fSeq (fSet 3 (fCal gb (aCons (fVar 0) (aCons (aC aZ (aA 1) (au (fCst (.int 0)))) aNil)))) (fRet (fLC (iB2 (au (aC aZ (aA 0) (au (fCst (.int 2)))))) (.many 7) lF lG [3,2,1])))
noncomputable def iJ:FN:=fN 3 4 rQ
@[reducible] noncomputable def o6:FS:=(uV 2 (aA 5) (fVar 4))
@[reducible] noncomputable def o7:FT:=(ir (fTst (aC jY (aA 2) (aA 3))) (fTst (aC jm (aA 1) (aA 4))))
@[reducible] noncomputable def o8:FE:=(fVar 1)
@[reducible] noncomputable def o9:FT:=(fTru (aA 3))
@[reducible] noncomputable def pA:FS:=(fSeq (Qz 4 (au (fCst (.int 1)))) (fSeq (fSet 3 (Xo (iB2 (aA 0)) (.many 3) o7 o8 [3,2])) (iz (iV (fVar 3)) (gNm 5) o6)))
@[reducible] noncomputable def pO:FS:=(fSeq (fSet 2 (HQ (aA 1) (fCst (.int 0)))) (fSeq (fSet 3 (fLst (aCons (fVar 1) aNil))) (fSeq (fSet 4 (fCst (.int 0))) (fSeq (QB o9 pA) (fRetV 2)))))
noncomputable def je:FN:=fN 2 6 pO
@[reducible] noncomputable def mD:FT:=(ir (fTst (aC jF (aA 1) (aA 3))) (ir (fTst (aC jY (aA 2) (aA 4))) (fTst (aC zf (au (aC aZ (aA 4) (aA 2))) (au (aC aZ (aA 4) (aA 3)))))))
@[reducible] noncomputable def mF:FE:=(fTup (aCons (fVar 0) (aCons (fVar 2) aNil)))
@[reducible] noncomputable def lH:FS:=(fRet (fFun zO (bCons (au (fLC (iB2 (aA 0)) (.many 3) mD mF [2,1])) bNil)))
noncomputable def gf:FN:=fN 3 3 lH
@[reducible] noncomputable def nD:FT:=(fTst (aC tD (aA 1) (aA 2)))
@[reducible] noncomputable def nF:FS:=(fSeq (fUnp (fCal gf (aCons (fVar 0) (aCons (fVar 3) (aCons (fVar 1) aNil)))) (gTp 2 (gsCons (gNm 5) (gsCons (gNm 1) gsNil)))) (oM 4 (fVar 5)))
@[reducible] noncomputable def jx:FS:=(fSeq (fSet 3 (fCal je (aCons (fVar 0) (aCons (fVar 2) aNil)))) (fSeq (lq (fTst (aC jm (aA 1) (aA 3))) (fRet (fCst .none)) fNext) (fSeq (fSet 4 (fLst aNil)) (fSeq (QB nD nF) (fRetV 4)))))
noncomputable def gO:FN:=fN 3 6 jx
@[reducible] noncomputable def nG:FS:=(fSeq (lq (wB (fTru (au (fCal dO (aCons (fVar 1) (aCons (fVar 2) aNil))))) (fTru (au (fCal dO (aCons (fVar 1) (aCons (fVar 3) aNil)))))) (fRet (fCst .none)) fNext) (fRet (fCal gO (aCons (fCal iJ (aCons (fVar 0) (aCons (fVar 1) (aCons (fVar 4) aNil)))) (aCons (fVar 2) (aCons (fVar 3) aNil))))))
noncomputable def j7:FN:=fN 5 5 nG
@[reducible] noncomputable def Gf:FS:=(fSeq (fSet 2 (aC fD (au (aC fP (au (aC aX (au (aC aX (au (aC fD (aA 0) (au (fCst (.int 2147483629))))) (au (aC fP (au (aC fP (aA 1) (aA 1))) (au (fCst (.int 7919))))))) (au (fCst (.int 11))))) (au (fCst (.int 48271))))) (au (fCst (.int 2147483647))))) (fRet (aC fD (au (aC fP (aA 2) (aA 2))) (au (fCst (.int 1999999973))))))
noncomputable def rR:FN:=fN 2 3 Gf
@[reducible] noncomputable def jH:FS:=(fSeq (fSet 2 (uP (fTst (aC zf (aA 1) (au (sI 0)))) (M4 0 (aA 1)) (fCst (.int 0)))) (fRet (fLst (aCons (aC aZ (au (fLst (aCons (fCst (.int 0)) (aCons (fFun BL (bCons (aA 2) bNil)) aNil)))) (au (fFun uX (bCons (au (aC Qq (au (fFun BL (bCons (aA 2) bNil))) (au (aC xM (au (fCst (.int 10))) (au (fCst (.int 18))))))) bNil)))) (aCons (aC aX (aA 2) (au (aC fP (au (fCst (.int 1000003))) (aA 1)))) (aCons (fCst (.int 0)) aNil))))))
noncomputable def d9:FN:=fN 2 3 jH
@[reducible] noncomputable def tZ:FS:=(fSeq (uV 0 (au (fCst (.int 2))) (aC aX (au (u6 0 (au (fCst (.int 2))))) (au (fCst (.int 1))))) (fSeq (lq (fTst (aC Ml (au (u6 0 (au (fCst (.int 0))))) (au (fCst (.int 0))))) (fSeq (fSet 2 (aC fD (au (u6 0 (au (fCst (.int 0))))) (aA 1))) (fSeq (uV 0 (au (fCst (.int 0))) (aC m7 (au (u6 0 (au (fCst (.int 0))))) (aA 1))) (fRetV 2))) fNext) (fRet (aC fD (au (aC m7 (au (fCal rR (aCons (fCal rR (aCons (u6 0 (au (fCst (.int 1)))) (aCons (u6 0 (au (fCst (.int 2)))) aNil))) (aCons (aC aX (au (u6 0 (au (fCst (.int 2))))) (au (fCst (.int 64)))) aNil)))) (au (fCst (.int 64))))) (aA 1)))))
noncomputable def aN:FN:=fN 2 3 tZ
@[reducible] noncomputable def vI (zU:FN):FE:=(fCal zU (aCons (fVar 0) (aCons (fVar 1) aNil)))
@[reducible] noncomputable def t6 (zU:FN):FS:=(fSeq (lq (fTru (au (BW "list" "tuple" (aA 1)))) (fSeq (lq (wB (fTst (aC tD (au (pI "list" (aA 0))) (au (pI "list" (aA 1))))) (fTst (aC tD (au (pI "tuple" (aA 0))) (au (pI "tuple" (aA 1)))))) (fRet (fCst (.bool false))) fNext) (fRet (ni (aC jF (au (fFun nu (bCons (aA 0) bNil))) (au (fFun nu (bCons (aA 1) bNil)))) (fFun BP (bCons (au (fLC (Yn (bCons (aA 0) (bCons (aA 1) bNil))) (.many 2) gH (vI zU) [])) bNil))))) fNext) (fSeq (lq (wB (fTst (aC Hf (aA 1) (au (fCst .none)))) (fTru (au (pI "str" (aA 1))))) (fRet (ni (aC jF (aA 0) (aA 1)) (aC jF (au (pI "str" (aA 0))) (au (pI "str" (aA 1)))))) fNext) (fSeq (lq (fTru (au (pI "bool" (aA 1)))) (fRet (ni (pI "bool" (aA 0)) (aC jF (aA 0) (aA 1)))) fNext) (fRet (ni (pI "int" (aA 0)) (ni (Hj (pI "bool" (aA 0))) (aC jF (aA 0) (aA 1))))))))
noncomputable def dF:Nat→FN
 | 0=>Ni
 | n + 1=>fN 2 2 (t6 (dF n))
@[reducible] noncomputable def cA:FS:=(fSeq (fSet 11 (aC fD (au (aC aX (aA 5) (au (aC fP (aA 6) (aA 10))))) (au (fCst (.int 676))))) (fSeq (fSet 12 (aC aX (au (aC aZ (aA 2) (au (aC m7 (aA 11) (au (fCst (.int 26))))))) (au (aC aZ (aA 2) (au (aC fD (aA 11) (au (fCst (.int 26))))))))) (oM 8 (aC aX (au (aC aX (aA 3) (aA 12))) (au (oV (aA 4) rK (n6 (au (aC fD (au (aC aX (au (aC fP (aA 10) (aA 10))) (aA 5))) (au (fCst (.int 4))))))))))))
@[reducible] noncomputable def dR:FE:=(aC aZ (aA 1) (au (aC fD (au (aC aX (aA 2) (au (aC fP (aA 3) (aA 0))))) (au (fCst (.int 26))))))
@[reducible] noncomputable def gw:FE:=(oV (aA 1) (n6 (aA 0)) (n6 (au (aC aX (aA 0) (aA 2)))))
@[reducible] noncomputable def cB:FS:=(QX 8 (au (fLC (tG (au (aC xK (au (fCst (.int 9))) (aA 9)))) .one gH gw [7,9])))
@[reducible] noncomputable def dU:FE:=(aC aZ (aA 1) (au (aC fD (au (aC aX (aA 2) (au (aC fP (au (fCst (.int 5))) (aA 0))))) (au (fCst (.int 26))))))
@[reducible] noncomputable def gA:FE:=(aC aZ (aA 1) (au (fCal aN (aCons (fVar 2) (aCons (fCst (.int 26)) aNil)))))
@[reducible] noncomputable def gB:FE:=(aC aZ (aA 1) (au (fCal aN (aCons (fVar 2) (aCons (fCst (.int 26)) aNil)))))
@[reducible] noncomputable def eE:FS:=(fSeq (fSet 2 (fCst (.str (Str.ofString "abcdefghijklmnopqrstuvwxyz")))) (fSeq (fSet 3 (nA (au (fCst (.str (Str.ofString "")))) (au (fLC (tG (au (fCal aN (aCons (fVar 0) (aCons (fCst (.int 4)) aNil))))) .one gH gB [2,0])))) (fSeq (fSet 4 (nA (au (fCst (.str (Str.ofString "")))) (au (fLC (tG (au (fCal aN (aCons (fVar 0) (aCons (fCst (.int 4)) aNil))))) .one gH gA [2,0])))) (fSeq (fPar [5,6] (oCons (fCal aN (aCons (fVar 0) (aCons (fCst (.int 676)) aNil))) (oCons (aC aZ (au (fLst (aCons (fCst (.int 1)) (aCons (fCst (.int 3)) (aCons (fCst (.int 5)) (aCons (fCst (.int 7)) (aCons (fCst (.int 25)) (aCons (fCst (.int 675)) aNil)))))))) (au (fCal aN (aCons (fVar 0) (aCons (fCst (.int 6)) aNil))))) aNil))) (fSeq (lq (fTst (aC jF (au (fCal aN (aCons (fVar 0) (aCons (fCst (.int 4)) aNil)))) (au (fCst (.int 0))))) (fSeq (fPar [7,8] (oCons (nA (au (fCst (.str (Str.ofString "")))) (au (fLC (tG (au (fCst (.int 8)))) .one gH dU [2,5]))) (oCons (fLst aNil) aNil))) (fSeq (iz (Nu (au (fCst (.int 1))) (au (fCst (.int 9)))) (gNm 9) cB) (fRet (oV (aA 8) rK (n6 (aA 1)))))) fNext) (fSeq (lq (ir (fTst (aC zf (aA 1) (au (fCst (.int 27))))) (fTst (aC jF (au (fCal aN (aCons (fVar 0) (aCons (fCst (.int 3)) aNil)))) (au (fCst (.int 0)))))) (fRet (fLC (tG (aA 1)) .one gH dR [2,5,6])) fNext) (fSeq (fSet 8 (fLst aNil)) (fSeq (iz (tG (aA 1)) (gNm 10) cA) (fRetV 8)))))))))
noncomputable def eF:FN:=fN 2 13 eE
@[reducible] noncomputable def cU:FS:=(uV 2 (aA 4) (aC aZ (au (aC aX (au (fLst (aCons (fCst (.str (Str.ofString ""))) aNil))) (au (oV (aA 1) rK (n6 (aA 3)))))) (au (uP (fTst (aC Ml (au (fCal aN (aCons (fVar 0) (aCons (fCst (.int 4)) aNil)))) (au (fCst (.int 0))))) (fCal aN (aCons (fVar 0) (aCons (aC aX (aA 3) (au (fCst (.int 1)))) aNil))) (fCst (.int 0))))))
@[reducible] noncomputable def jJ:FS:=(fSeq (fSet 2 Fe) (fSeq (iz (Yo (fVar 1)) (gTp 2 (gsCons (gNm 3) (gsCons (gNm 4) gsNil))) cU) (fRetV 2)))
noncomputable def eG:FN:=fN 2 5 jJ
@[reducible] noncomputable def j8:FT:=(fTst (aC jY (aA 1) (aA 0)))
@[reducible] noncomputable def j9:FS:=(fSeq (oM 2 (fVar 1)) (fSet 1 (aC aZ (aA 0) (aA 1))))
@[reducible] noncomputable def jK:FS:=(fSeq (fSet 2 (fLst aNil)) (fSeq (QB j8 j9) (fRetV 2)))
noncomputable def eN:FN:=fN 2 3 jK
@[reducible] noncomputable def lJ:FS:=(fSeq (oM 2 (fVar 3)) (fSet 3 (aC aX (au (aC aX (aA 3) (au (fCst (.int 1))))) (au (aC fP (au (fCal aN (aCons (fVar 0) (aCons (fCst (.int 2)) aNil)))) (au (fCal aN (aCons (fVar 0) (aCons (fCst (.int 3)) aNil)))))))))
@[reducible] noncomputable def rT:FS:=(fSeq (fPar [2,3] (oCons (fLst aNil) (oCons (fCal aN (aCons (fVar 0) (aCons (fCst (.int 3)) aNil))) aNil))) (fSeq (iz (tG (aA 1)) (gNm 4) lJ) (fRetV 2)))
noncomputable def kj:FN:=fN 2 5 rT
@[reducible] noncomputable def nH:FS:=(fRet (fTup (aCons (fFun qG (bCons (au (zN (aA 0))) bNil)) (aCons (fTup aNil) (aCons (fFun qG (bCons (aA 1) bNil)) (aCons (fTup aNil) aNil))))))
noncomputable def gP:FN:=fN 2 2 nH
@[reducible] noncomputable def oE:FS:=(fSeq (lq (wB (fTst (aC jY (au (aC aZ (aA 3) (au (fCst (.int 1))))) (au (oV (aA 1) (n6 (au (fCst (.int 2)))) rK)))) (wB (fTst (aC jY (au (aC aZ (aA 3) (au (fCst (.int 2))))) (au (oV (aA 1) (n6 (au (fCst (.int 2)))) rK)))) (fTst (aC jm (au (aC aZ (aA 3) (au (fCst (.int 3))))) (au (fCal eN (aCons (fVar 0) (aCons (aC aZ (aA 1) (au (fCst (.int 0)))) aNil)))))))) (fRet (fCst (.bool false))) fNext) (fRet (ni (Bo rC rC (au (aC aZ (aA 3) (au (fCst (.int 4))))) (aA 2) (au (aC aZ (aA 3) (au (fCst (.int 5)))))) (aC rC (au (aC aZ (aA 1) (au (fCst (.int 1))))) (au (aC aZ (aA 3) (au (fCst (.int 6)))))))))
noncomputable def qR:FN:=fN 4 4 oE
@[reducible] noncomputable def mG:FT:=(ir (fTst (aC jF (au (aC aZ (aA 0) (au (fCst (.int 1))))) (aA 1))) (fTru (au (fCal qR (aCons (fVar 2) (aCons (fVar 3) (aCons (fVar 4) (aCons (fVar 0) aNil))))))))
@[reducible] noncomputable def mH:FE:=(aC aZ (aA 0) (au (fCst (.int 0))))
@[reducible] noncomputable def mJ:FS:=(fSeq (fSet 16 (fLC (iB (aA 5)) .one mG mH [14,2,13,4])) (fSeq (lq (qy (fTru (au (fCal (dF 3) (aCons (fCal j7 (aCons (fVar 11) (aCons (fVar 13) (aCons (fVar 14) (aCons (fVar 15) (aCons (fVar 4) aNil)))))) (aCons (uP (fTst (aC tD (aA 16) (au (fLst aNil)))) (oV (aA 16) rK (n6 (au (fCst (.int 1))))) (fCst .none)) aNil)))))) (fRet (fCst (.bool false))) fNext) (fSeq (fSet 17 (uP (fTst (aC jY (aA 14) (au (oV (aA 13) (n6 (au (fCst (.int 2)))) rK)))) (fCst .none) (fLst aNil))) (lq (qy (fTru (au (fCal (dF 3) (aCons (fCal j7 (aCons (fVar 11) (aCons (fVar 13) (aCons (fVar 14) (aCons (fVar 14) (aCons (fVar 4) aNil)))))) (aCons (fVar 17) aNil)))))) (fRet (fCst (.bool false))) fNext))))
@[reducible] noncomputable def ie:FS:=(iz (iV2 (fLst (aCons (fTup (aCons (aC aZ (aA 1) (au (fCst (.int 10)))) (aCons (aC aZ (aA 1) (au (fCst (.int 11)))) aNil))) (aCons (fTup (aCons (aC aZ (aA 1) (au (fCst (.int 11)))) (aCons (aC aZ (aA 1) (au (fCst (.int 10)))) aNil))) aNil)))) (gTp 2 (gsCons (gNm 14) (gsCons (gNm 15) gsNil))) mJ)
@[reducible] noncomputable def cJ:FS:=(fSeq (fSet 7 (fFun uX (bCons (au (aC jF (au (fCal aN (aCons (fVar 0) (aCons (fCst (.int 4)) aNil)))) (au (fCst (.int 0))))) bNil))) (fSeq (fSet 8 (aC aZ (au (fLst (aCons (fTup (aCons (fVar 4) (aCons (fVar 4) aNil))) (aCons (fTup (aCons (fCst (.int 0)) (aCons (fVar 4) aNil))) (aCons (fTup (aCons (fVar 4) (aCons (fCst (.int 99999)) aNil))) (aCons (fTup (aCons (fCst (.int 0)) (aCons (aC xK (aA 4) (au (fCst (.int 1)))) aNil))) (aCons (fTup (aCons (aC aX (aA 4) (au (fCst (.int 1)))) (aCons (aC aX (aA 4) (au (fCst (.int 5)))) aNil))) (aCons (fTup (aCons (fCst (.int 0)) (aCons (fCst (.int 99999)) aNil))) aNil)))))))) (au (fCal aN (aCons (fVar 0) (aCons (fCst (.int 6)) aNil)))))) (fSeq (fSet 9 (uP (fTst (aC jF (au (fCal aN (aCons (fVar 0) (aCons (fCst (.int 2)) aNil)))) (au (fCst (.int 0))))) (aC aZ (aA 1) (au (fCal aN (aCons (fVar 0) (aCons (fFun nu (bCons (aA 2) bNil)) aNil))))) (aC aZ (aA 3) (au (fCst (.int 0)))))) (fSeq (fSet 10 (fTup (aCons (aC aZ (aA 1) (au (aC aX (au (fCst (.int 10))) (aA 7)))) (aCons (aC aZ (aA 1) (au (aC xK (au (fCst (.int 11))) (aA 7)))) aNil)))) (oM 5 (aC aX (au (aC aX (au (aC aX (au (aC aX (au (fTup (aCons (fVar 6) aNil))) (aA 10))) (au (fTup (aCons (fVar 9) aNil))))) (aA 8))) (au (fTup (aCons (aC aZ (au (fLst (aCons (fCst (.int 49)) (aCons (fCst (.int 50)) (aCons (fCst (.int 51)) (aCons (aC xM (au (fCst (.int 10))) (au (fCst (.int 9)))) aNil)))))) (au (fCal aN (aCons (fVar 0) (aCons (fCst (.int 4)) aNil))))) aNil)))))))))
@[reducible] noncomputable def lK:FS:=(fSeq (fSet 1 (fCal eF (aCons (fVar 0) (aCons (fCst (.int 12)) aNil)))) (fSeq (fSet 2 (fCal eG (aCons (fVar 0) (aCons (oV (aA 1) rK (n6 (au (aC aX (au (fCst (.int 1))) (au (fCal aN (aCons (fVar 0) (aCons (fCst (.int 8)) aNil)))))))) aNil)))) (fSeq (fSet 3 (fTup (aCons (aC aZ (aA 1) (au (fCal aN (aCons (fVar 0) (aCons (fFun nu (bCons (aA 2) bNil)) aNil))))) (aCons (fCst (.int 50)) (aCons (aC aZ (aA 1) (au (fCst (.int 8)))) (aCons (aC aZ (aA 1) (au (aC aZ (au (fLst (aCons (fCst (.int 8)) (aCons (fCst (.int 9)) aNil)))) (au (fCal aN (aCons (fVar 0) (aCons (fCst (.int 2)) aNil))))))) aNil)))))) (fSeq (fPar [4,5] (oCons (aC aX (au (fCst (.int 1))) (au (fCal aN (aCons (fVar 0) (aCons (fCst (.int 50)) aNil))))) (oCons (fLst aNil) aNil))) (fSeq (iz (iV (fCal kj (aCons (fVar 0) (aCons (aC aX (au (fCst (.int 1))) (au (fCal aN (aCons (fVar 0) (aCons (fCst (.int 4)) aNil))))) aNil)))) (gNm 6) cJ) (fSeq (fSet 11 (fCal gP (aCons (fVar 2) (aCons (fVar 5) aNil)))) (fSeq (fSet 12 (fFun zP (bCons (au (fLst (aCons (fVar 11) (aCons (fVar 3) aNil)))) bNil))) (fSeq (iz (iV (fLst (aCons (fVar 3) (aCons (aC aX (au (oV (aA 3) rK (n6 (au (fCst (.int 2)))))) (au (fTup (aCons (aC aZ (aA 1) (au (fCst (.int 10)))) (aCons (aC aZ (aA 1) (au (fCst (.int 8)))) aNil))))) (aCons (aC aX (au (oV (aA 3) rK (n6 (au (fCst (.int 2)))))) (au (fTup (aCons (aC aZ (aA 1) (au (fCst (.int 8)))) (aCons (aC aZ (aA 1) (au (fCst (.int 11)))) aNil))))) aNil))))) (gNm 13) ie) (fRet (aC jF (au (fFun zP (bCons (au (fLst (aCons (fVar 11) (aCons (fVar 3) aNil)))) bNil))) (aA 12)))))))))))
noncomputable def gh:FN:=fN 1 18 lK
@[reducible] noncomputable def Df:FS:=(lq (qy (fTru (au (fCal gh (aCons (fVar 2) aNil))))) (fRet (fCst (.bool false))) fNext)
@[reducible] noncomputable def vJ:FS:=(fSeq (My 2 (fCal d9 (aCons (fVar 0) (aCons (fVar 1) aNil)))) (iz (tG (au (fCst (.int 3)))) (gNm 3) Df))
@[reducible] noncomputable def N7:FS:=(fSeq (iz (tG (au (aC aX (au (fCst (.int 1))) (au (fFun zB (bCons (au (fCst (.int 6))) (bCons (au (sI 0)) bNil))))))) (gNm 1) vJ) (fRet (fCst (.bool true))))
noncomputable def yt:FN:=fN 1 4 N7
theorem wI {P:Program} {w:World} {K:PySem.W.Frag} {mg:Str→Option Value} {base:Heap} {f:Addr} {fd:FuncData} (F:su K "parts_over" "parts_over" cW f fd) (T:Txt K mg):dG P w K mg base qb 1 f fd (["house","part"]:List Str) (spT K gb):=
 fW (body:=lD) F gC fun cdv A outer s H E hr=>(aG (Nh (i:=2) (T:=(.many 2)) (NT:=(["name","within"]:List Str)) (NF:=([]:List Str)) (js:=[]) (uA.ok (N0:=(["house","part","outer","over"]:List Str)) (Ds:=aD cW) (by decide +kernel) rfl rfl) (⟨_,_,_,rfl,(.cons ⟨_,rfl⟩ (.cons ⟨_,rfl⟩ .nil)),rfl⟩) rfl hr.aH (Hz (aj (bC (aU hr.aH) bD (ao (pv 0)) (aj (aq az)) (fun _ _=>rfl)))) (fun b=>⟨lB,(aB (pv 0)),(aB (pv 1))⟩) (by rfl) gC.nd rfl rfl) (aG (bM (i:=3) gC.nd rfl (Or.inl rfl) (cL aF)) (aG (qD PassesOwn.never (bY (kZ hr.aH) qx (ao (pv 1)) (ao (pv 2)) (by with_unfolding_all rfl)) (aG (rJ (pv 3) (aB (pv 1))) (aR (bM (i:=1) gC.nd rfl (Or.inl rfl) (bC (aU hr.aH) bD (ao (pv 2)) (ao (pv 1)) (fun _ _=>rfl)))))) (aR (jq (pv 3))))))
theorem Gg {P:Program} {w:World} {K:PySem.W.Frag} {mg:Str→Option Value} {base:Heap} {f:Addr} {fd:FuncData} (F:su K "is_side" "is_side" iH f fd) (T:Txt K mg):dG P w K mg base qb 1 f fd (["paper","person"]:List Str) (spT K dO):=
 fW (body:=rP) F Ge fun cdv A outer s H E hr=>(aR (cu (jC (kZ hr.aH) qx (ao (pv 1)) (aj (lY (ao (pv 0)) (jt (aj (aq az))) (jt (aj (aq az))))) (by with_unfolding_all rfl))))
theorem Gh {P:Program} {w:World} {K:PySem.W.Frag} {mg:Str→Option Value} {base:Heap} {f:Addr} {fd:FuncData} (F:su K "ways_on" "ways_on" gr f fd) (T:Txt K mg) (lM:jl P w K mg base "parts_over" 1 (["house","part"]:List Str) (spT K gb)) (fL:jl P w K mg base "is_side" 1 (["paper","person"]:List Str) (spT K dO)):dG P w K mg base qb 2 f fd (["house","paper","day"]:List Str) (spT K iJ):=
 fW (body:=rQ) F vG fun cdv A outer s H E hr=>(aG (bM (i:=3) vG.nd rfl (Or.inr rfl) (bA lM (hr.mono (by decide)) rfl (aa (aB (pv 0)) (aa (bC (aU hr.aH) bD (ao (pv 1)) (aj (aq az)) (fun _ _=>rfl)) aF)))) (aR (cu (sH (T:=(.many 7)) (NT:=(["number","giver","taker","part","first","last","most"]:List Str)) (NF:=(["over","day","paper"]:List Str)) (js:=[3,2,1]) (uA.ok (N0:=(["house","paper","day","over"]:List Str)) (Ds:=aD gr) (by decide +kernel) rfl rfl) (⟨_,_,_,rfl,(.cons ⟨_,rfl⟩ (.cons ⟨_,rfl⟩ (.cons ⟨_,rfl⟩ (.cons ⟨_,rfl⟩ (.cons ⟨_,rfl⟩ (.cons ⟨_,rfl⟩ (.cons ⟨_,rfl⟩ .nil))))))),rfl⟩) rfl (Hz (aj (bC (aU hr.aH) bD (ao (pv 0)) (aj (aq az)) (fun _ _=>rfl)))) (fun b=>⟨(tX (PW.pt (lg (bY (kZ hr.aH) qx (ao (pv 3)) (ao (pv 7)) (by with_unfolding_all rfl)) (lg (Uu rD xO rD xO (ao (pv 4)) (ao (pv 8)) (ao (pv 5))) (lg (bY rD xO (aj (bC (aU hr.aH) bD (ao (pv 9)) (aj (aq az)) (fun _ _=>rfl))) (ao (pv 6)) (b8 _)) (lg (uO (gR (aj (bA fL (hr.mono (by decide)) rfl (aa (aB (pv 9)) (aa (aB (pv 1)) aF)))))) (qz (uO (gR (aj (bA fL (hr.mono (by decide)) rfl (aa (aB (pv 9)) (aa (aB (pv 2)) aF))))))))))))),(cO (aa (aB (pv 0)) (aa (aB (pv 1)) (aa (aB (pv 2)) aF))))⟩)))))
theorem Dg {P:Program} {w:World} {K:PySem.W.Frag} {mg:Str→Option Value} {base:Heap} {f:Addr} {fd:FuncData} (F:su K "steps_to" "steps_to" fj f fd) (T:Txt K mg):dG P w K mg base qb 1 f fd (["ways","signer"]:List Str) (spT K je):=
 fW (body:=pO) F dM fun cdv A outer s H E hr=>(aG (bM (i:=2) dM.nd rfl (Or.inr rfl) (Nx (ao (pv 1)) (aq az))) (aG (bM (i:=3) dM.nd rfl (Or.inr rfl) (cL (aa (aB (pv 1)) aF))) (aG (bM (i:=4) dM.nd rfl (Or.inl rfl) (aq az)) (aG (qD PassesOwn.never (gR (ao (pv 3))) (aG (UW (i:=4) dM.nd rfl (Or.inl rfl) (aj (aq az))) (aG (bM (i:=3) dM.nd rfl (Or.inr rfl) (Xp (T:=(.many 3)) (NT:=(["number","giver","taker"]:List Str)) (NF:=(["newest","steps"]:List Str)) (js:=[3,2]) (uA.ok (N0:=(["ways","signer","steps","newest","many","person"]:List Str)) (Ds:=aD fj) (by decide +kernel) rfl rfl) (⟨_,_,_,rfl,(.cons ⟨_,rfl⟩ (.cons ⟨_,rfl⟩ (.cons ⟨_,rfl⟩ .nil))),rfl⟩) rfl rfl T.j6 (Hz (ao (pv 0))) (fun b=>⟨(tX (PW.pt (lg (bY (kZ hr.aH) qx (ao (pv 2)) (ao (pv 3)) (by with_unfolding_all rfl)) (qz (bY (rE hr.aH) uN (ao (pv 1)) (ao (pv 4)) (by with_unfolding_all rfl)))))),(aB (pv 1))⟩))) (aR (jG PassesOwn.never rfl (U0 (aB (pv 3))) (b7 (i:=5) dM.nd rfl (Or.inl rfl)) dB (aR (zx hr.aH (pv 2) (ao (pv 5)) (aB (pv 4))))))))) (aR (jq (pv 2)))))))
theorem wJ {P:Program} {w:World} {K:PySem.W.Frag} {mg:Str→Option Value} {base:Heap} {f:Addr} {fd:FuncData} (F:su K "nearer_way" "nearer_way" cX f fd) (T:Txt K mg):dG P w K mg base qb 1 f fd (["ways","steps","person"]:List Str) (spT K gf):=
 fW (body:=lH) F wH fun cdv A outer s H E hr=>(aR (cu (fQ (wG rfl hr.aH) Q8 rfl T.yr (by decide +kernel) (bL (aj (sH (T:=(.many 3)) (NT:=(["number","giver","taker"]:List Str)) (NF:=(["person","steps"]:List Str)) (js:=[2,1]) (uA.ok (N0:=(["ways","steps","person"]:List Str)) (Ds:=aD cX) (by decide +kernel) rfl rfl) (⟨_,_,_,rfl,(.cons ⟨_,rfl⟩ (.cons ⟨_,rfl⟩ (.cons ⟨_,rfl⟩ .nil))),rfl⟩) rfl (Hz (ao (pv 0))) (fun b=>⟨(tX (PW.pt (lg (bY (gQ hr.units) lR (ao (pv 1)) (ao (pv 3)) (b8 _)) (lg (bY (kZ hr.aH) qx (ao (pv 2)) (ao (pv 4)) (by with_unfolding_all rfl)) (qz (bY (pC hr.DP) Mj (aj (bC (aU hr.aH) bD (ao (pv 4)) (ao (pv 2)) (fun _ _=>rfl))) (aj (bC (aU hr.aH) bD (ao (pv 4)) (ao (pv 3)) (fun _ _=>rfl))) (b8 _))))))),(cO (aa (aB (pv 0)) (aa (aB (pv 2)) aF)))⟩))) cG))))
theorem zV {P:Program} {w:World} {K:PySem.W.Frag} {mg:Str→Option Value} {base:Heap} {f:Addr} {fd:FuncData} (F:su K "first_row" "first_row" fJ f fd) (T:Txt K mg) (pP:jl P w K mg base "steps_to" 1 (["ways","signer"]:List Str) (spT K je)) (lN:jl P w K mg base "nearer_way" 1 (["ways","steps","person"]:List Str) (spT K gf)):dG P w K mg base qb 2 f fd (["ways","holder","signer"]:List Str) (spT K gO):=
 fW (body:=jx) F fY fun cdv A outer s H E hr=>(aG (bM (i:=3) fY.nd rfl (Or.inl rfl) (bA pP (hr.mono (by decide)) rfl (aa (aB (pv 0)) (aa (aB (pv 2)) aF)))) (aG (j0 (bY (rE hr.aH) uN (ao (pv 1)) (ao (pv 3)) (by with_unfolding_all rfl)) (aR (cu (aq ud))) gq) (aG (bM (i:=4) fY.nd rfl (Or.inl rfl) (cL aF)) (aG (qD PassesOwn.never (bY (zc hr.units) G9 (ao (pv 1)) (ao (pv 2)) (b8 _)) (aG (Uz (bA lN (hr.mono (by decide)) rfl (aa (aB (pv 0)) (aa (aB (pv 3)) (aa (aB (pv 1)) aF)))) (rm rfl (dg (b7 (i:=5) fY.nd rfl (Or.inl rfl)) (dg (b7 (i:=1) fY.nd rfl (Or.inl rfl)) nQ))) (Fi (j4 dB (j4 dB zm)))) (aR (rJ (pv 4) (aB (pv 5)))))) (aR (jq (pv 4)))))))
theorem J0 {P:Program} {w:World} {K:PySem.W.Frag} {mg:Str→Option Value} {base:Heap} {f:Addr} {fd:FuncData} (F:su K "row_of" "row_of" j5 f fd) (T:Txt K mg) (fL:jl P w K mg base "is_side" 1 (["paper","person"]:List Str) (spT K dO)) (rU:jl P w K mg base "ways_on" 2 (["house","paper","day"]:List Str) (spT K iJ)) (nJ:jl P w K mg base "first_row" 2 (["ways","holder","signer"]:List Str) (spT K gO)):dG P w K mg base qb 3 f fd (["house","paper","holder","signer","day"]:List Str) (spT K j7):=
 fW (body:=nG) F JZ fun cdv A outer s H E hr=>(aG (j0 (PW.pt (Bm (gR (aj (bA fL (hr.mono (by decide)) rfl (aa (aB (pv 1)) (aa (aB (pv 2)) aF))))) (zg (gR (aj (bA fL (hr.mono (by decide)) rfl (aa (aB (pv 1)) (aa (aB (pv 3)) aF)))))))) (aR (cu (aq ud))) gq) (aR (cu (bA nJ (hr.mono (by decide)) rfl (aa (bA rU (hr.mono (by decide)) rfl (aa (aB (pv 0)) (aa (aB (pv 1)) (aa (aB (pv 4)) aF)))) (aa (aB (pv 2)) (aa (aB (pv 3)) aF)))))))
theorem Rb {P:Program} {w:World} {K:PySem.W.Frag} {mg:Str→Option Value} {base:Heap} {f:Addr} {fd:FuncData} (F:su K "_law_mix" "_law_mix" rO f fd) (T:Txt K mg):dG P w K mg base qb 1 f fd (["_law_cell","_law_k"]:List Str) (spT K rR):=
 fW (body:=Gf) F HX fun cdv A outer s H E hr=>(aG (bM (i:=2) HX.nd rfl (Or.inl rfl) (aM jA jD (aj (aM jz jE (aj (aM bh bT (aj (aM bh bT (aj (aM jA jD (ao (pv 0)) (aj (aq az)))) (aj (aM jz jE (aj (aM jz jE (ao (pv 1)) (ao (pv 1)))) (aj (aq az)))))) (aj (aq az)))) (aj (aq az)))) (aj (aq az)))) (aR (cu (aM jA jD (aj (aM jz jE (ao (pv 2)) (ao (pv 2)))) (aj (aq az))))))
theorem vK {P:Program} {w:World} {K:PySem.W.Frag} {mg:Str→Option Value} {base:Heap} {f:Addr} {fd:FuncData} (F:su K "_law_drawn_from" "_law_drawn_from" dj f fd) (T:Txt K mg):dG P w K mg base qb 1 f fd (["_law_script","_law_k"]:List Str) (spT K d9):=
 fW (body:=jH) F nC fun cdv A outer s H E hr=>(aG (bM (i:=2) nC.nd rfl (Or.inl rfl) (Bq (bY (pC hr.DP) Mj (ao (pv 1)) (aj (Hv (pv 0) rfl T.oZ (by decide +kernel))) (b8 _)) (U7 (pv 0) (ao (pv 1)) (fun _ _=>rfl)) (aq az))) (aR (cu (cL (aa (bC (aU hr.aH) bD (aj (cL (aa (aq az) (aa (fQ Aj M6 rfl T.yq (by decide +kernel) (bL (ao (pv 2)) cG)) aF)))) (aj (jZ wV M7 rfl T.vH (by decide +kernel) (bL (aj (jC Wk W6 (aj (fQ Aj M6 rfl T.yq (by decide +kernel) (bL (ao (pv 2)) cG))) (aj (aM Ky Mi (aj (aq az)) (aj (aq az)))) (b8 _))) cG))) (fun _ _=>rfl)) (aa (aM bh bT (ao (pv 2)) (aj (aM jz jE (aj (aq az)) (ao (pv 1))))) (aa (aq az) aF)))))))
theorem N8 {P:Program} {w:World} {K:PySem.W.Frag} {mg:Str→Option Value} {base:Heap} {f:Addr} {fd:FuncData} (F:su K "_law_pick" "_law_pick" ou f fd) (T:Txt K mg) (zW:jl P w K mg base "_law_mix" 1 (["_law_cell","_law_k"]:List Str) (spT K rR)):dG P w K mg base qb 2 f fd (["_law_left","_law_many"]:List Str) (spT K aN):=
 fW (body:=tZ) F Dc fun cdv A outer s H E hr=>(aG (zx hr.aH (pv 0) (aj (aq az)) (aM bh bT (aj (pJ (pv 0) (aj (aq az)) (fun _ _=>rfl))) (aj (aq az)))) (aG (j0 (bY Rx R3 (aj (pJ (pv 0) (aj (aq az)) (fun _ _=>rfl))) (aj (aq az)) (b8 _)) (aG (bM (i:=2) Dc.nd rfl (Or.inl rfl) (aM jA jD (aj (pJ (pv 0) (aj (aq az)) (fun _ _=>rfl))) (ao (pv 1)))) (aG (zx hr.aH (pv 0) (aj (aq az)) (aM yF zb (aj (pJ (pv 0) (aj (aq az)) (fun _ _=>rfl))) (ao (pv 1)))) (aR (jq (pv 2))))) gq) (aR (cu (aM jA jD (aj (aM yF zb (aj (bA zW (hr.mono (by decide)) rfl (aa (bA zW (hr.mono (by decide)) rfl (aa (pJ (pv 0) (aj (aq az)) (fun _ _=>rfl)) (aa (pJ (pv 0) (aj (aq az)) (fun _ _=>rfl)) aF))) (aa (aM bh bT (aj (pJ (pv 0) (aj (aq az)) (fun _ _=>rfl))) (aj (aq az))) aF)))) (aj (aq az)))) (ao (pv 1)))))))
theorem Oa {P:Program} {w:World} {K:PySem.W.Frag} {mg:Str→Option Value} {base:Heap} {f:Addr} {fd:FuncData} (n:Nat) (F:su K "_law_same" "_law_same" jw f fd) (T:Txt K mg) (oF:jl P w K mg base "_law_same" n (["_law_found","_law_due"]:List Str) (spT K (dF n))):dG P w K mg base qb (n + 1) f fd (["_law_found","_law_due"]:List Str) (spT K (dF (n + 1))):=
 fW (body:=t6 (dF n)) F N5 fun cdv A outer s H E hr=>(aG (j0 (gR (aj (QG (by decide) (by decide) (ao (pv 1)) (dN (v:=.ty "list") rfl T.pN (by decide +kernel) rfl) (dN (v:=.ty "tuple") rfl T.iC (by decide +kernel) rfl) rfl T.aW (by decide +kernel)))) (aG (j0 (PW.pt (Bm (bY (zc hr.units) G9 (aj (iW (by decide) (ao (pv 0)) (dN (v:=.ty "list") rfl T.pN (by decide +kernel) rfl) rfl T.aW (by decide +kernel))) (aj (iW (by decide) (ao (pv 1)) (dN (v:=.ty "list") rfl T.pN (by decide +kernel) rfl) rfl T.aW (by decide +kernel))) (b8 _)) (zg (bY (zc hr.units) G9 (aj (iW (by decide) (ao (pv 0)) (dN (v:=.ty "tuple") rfl T.iC (by decide +kernel) rfl) rfl T.aW (by decide +kernel))) (aj (iW (by decide) (ao (pv 1)) (dN (v:=.ty "tuple") rfl T.iC (by decide +kernel) rfl) rfl T.aW (by decide +kernel))) (b8 _))))) (aR (cu (aq wU))) gq) (aR (cu (rG (jC (gQ hr.units) lR (aj (fQ nZ zA rfl T.oZ (by decide +kernel) (bL (ao (pv 0)) cG))) (aj (fQ nZ zA rfl T.oZ (by decide +kernel) (bL (ao (pv 1)) cG))) (b8 _)) (uQ (fQ (Lh rfl) U8 rfl T.Dd (by decide +kernel) (bL (aj (sH (T:=(.many 2)) (NT:=(["_law_one","_law_other"]:List Str)) (NF:=([]:List Str)) (js:=[]) (uA.ok (N0:=(["_law_found","_law_due"]:List Str)) (Ds:=aD jw) (by decide +kernel) rfl rfl) (⟨_,_,_,rfl,(.cons ⟨_,rfl⟩ (.cons ⟨_,rfl⟩ .nil)),rfl⟩) rfl (Vb rfl T.De (bL (ao (pv 0)) (bL (ao (pv 1)) cG))) (fun b=>⟨lB,(bA oF hr rfl (aa (aB (pv 0)) (aa (aB (pv 1)) aF)))⟩))) cG))))))) gq) (aG (j0 (PW.pt (Bm (bY Tu Uq (ao (pv 1)) (aj (aq ud)) (b8 _)) (zg (gR (aj (iW (by decide) (ao (pv 1)) (dN (v:=.ty "str") rfl T.qQ (by decide +kernel) rfl) rfl T.aW (by decide +kernel))))))) (aR (cu (rG (jC (gQ hr.units) lR (ao (pv 0)) (ao (pv 1)) (b8 _)) (uQ (jC (gQ hr.units) lR (aj (iW (by decide) (ao (pv 0)) (dN (v:=.ty "str") rfl T.qQ (by decide +kernel) rfl) rfl T.aW (by decide +kernel))) (aj (iW (by decide) (ao (pv 1)) (dN (v:=.ty "str") rfl T.qQ (by decide +kernel) rfl) rfl T.aW (by decide +kernel))) (b8 _)))))) gq) (aG (j0 (gR (aj (iW (by decide) (ao (pv 1)) (dN (v:=.ty "bool") rfl T.pM (by decide +kernel) rfl) rfl T.aW (by decide +kernel)))) (aR (cu (rG (iW (by decide) (ao (pv 0)) (dN (v:=.ty "bool") rfl T.pM (by decide +kernel) rfl) rfl T.aW (by decide +kernel)) (uQ (jC (gQ hr.units) lR (ao (pv 0)) (ao (pv 1)) (b8 _)))))) gq) (aR (cu (rG (iW (by decide) (ao (pv 0)) (dN (v:=.ty "int") rfl T.vH (by decide +kernel) rfl) rfl T.aW (by decide +kernel)) (rG (Uv (iW (by decide) (ao (pv 0)) (dN (v:=.ty "bool") rfl T.pM (by decide +kernel) rfl) rfl T.aW (by decide +kernel))) (uQ (jC (gQ hr.units) lR (ao (pv 0)) (ao (pv 1)) (b8 _))))))))))
theorem yu {P:Program} {w:World} {K:PySem.W.Frag} {mg:Str→Option Value} {base:Heap} {f:Addr} {fd:FuncData} (hm:mg "_law_same"=some (.ref f)) (hk:PySem.W.keepIn K (.ref f)=true) (hb:Binds K fd (["_law_found","_law_due"]:List Str) []) (F:su K "_law_same" "_law_same" jw f fd) (T:Txt K mg):
  ∀n,jl P w K mg base "_law_same" n (["_law_found","_law_due"]:List Str) (spT K (dF n))
 | 0=>⟨f,fd,hm,hk,hb,QM⟩
 | n + 1=>⟨f,fd,hm,hk,hb,Oa n F T (yu hm hk hb F T n)⟩
theorem vL {P:Program} {w:World} {K:PySem.W.Frag} {mg:Str→Option Value} {base:Heap} {f:Addr} {fd:FuncData} (F:su K "_law_some_names" "_law_some_names" bO f fd) (T:Txt K mg) (bf:jl P w K mg base "_law_pick" 2 (["_law_left","_law_many"]:List Str) (spT K aN)):dG P w K mg base qb 3 f fd (["_law_left","_law_many"]:List Str) (spT K eF):=
 fW (body:=eE) F aY fun cdv A outer s H E hr=>(aG (bM (i:=2) aY.nd rfl (Or.inr rfl) (aq ue)) (aG (bM (i:=3) aY.nd rfl (Or.inl rfl) (zF (aj (aq ue)) (aj (sH (T:=.one) (NT:=(["_law_turn"]:List Str)) (NF:=(["_law_letters","_law_left"]:List Str)) (js:=[2,0]) (uA.ok (N0:=(["_law_left","_law_many","_law_letters","_law_head","_law_tail","_law_first","_law_by","_law_stem","_law_found","_law_size","_law_k","_law_value","_law_two"]:List Str)) (Ds:=aD bO) (by decide +kernel) rfl rfl) (⟨_,⟨_,rfl⟩,rfl⟩) rfl (fU rfl T.dD (aj (bA bf (hr.mono (by decide)) rfl (aa (aB (pv 0)) (aa (aq az) aF))))) (fun b=>⟨lB,(bC (aU hr.aH) bD (ao (pv 1)) (aj (bA bf (hr.mono (by decide)) rfl (aa (aB (pv 2)) (aa (aq az) aF)))) (fun _ _=>rfl))⟩))))) (aG (bM (i:=4) aY.nd rfl (Or.inl rfl) (zF (aj (aq ue)) (aj (sH (T:=.one) (NT:=(["_law_turn"]:List Str)) (NF:=(["_law_letters","_law_left"]:List Str)) (js:=[2,0]) (uA.ok (N0:=(["_law_left","_law_many","_law_letters","_law_head","_law_tail","_law_first","_law_by","_law_stem","_law_found","_law_size","_law_k","_law_value","_law_two"]:List Str)) (Ds:=aD bO) (by decide +kernel) rfl rfl) (⟨_,⟨_,rfl⟩,rfl⟩) rfl (fU rfl T.dD (aj (bA bf (hr.mono (by decide)) rfl (aa (aB (pv 0)) (aa (aq az) aF))))) (fun b=>⟨lB,(bC (aU hr.aH) bD (ao (pv 1)) (aj (bA bf (hr.mono (by decide)) rfl (aa (aB (pv 2)) (aa (aq az) aF)))) (fun _ _=>rfl))⟩))))) (aG (zu (is:=[5,6]) (jr (bA bf (hr.mono (by decide)) rfl (aa (aB (pv 0)) (aa (aq az) aF))) (jr (bC (aU hr.aH) bD (aj (cL (aa (aq az) (aa (aq az) (aa (aq az) (aa (aq az) (aa (aq az) (aa (aq az) aF)))))))) (aj (bA bf (hr.mono (by decide)) rfl (aa (aB (pv 0)) (aa (aq az) aF)))) (fun _ _=>rfl)) zp)) (rm rfl (dg (b7 (i:=5) aY.nd rfl (Or.inr rfl)) (dg (b7 (i:=6) aY.nd rfl (Or.inr rfl)) nQ)))) (aG (j0 (bY (gQ hr.units) lR (aj (bA bf (hr.mono (by decide)) rfl (aa (aB (pv 0)) (aa (aq az) aF)))) (aj (aq az)) (b8 _)) (aG (zu (is:=[7,8]) (jr (zF (aj (aq ue)) (aj (sH (T:=.one) (NT:=(["_law_k"]:List Str)) (NF:=(["_law_letters","_law_first"]:List Str)) (js:=[2,5]) (uA.ok (N0:=(["_law_left","_law_many","_law_letters","_law_head","_law_tail","_law_first","_law_by","_law_stem","_law_found","_law_size","_law_k","_law_value","_law_two"]:List Str)) (Ds:=aD bO) (by decide +kernel) rfl rfl) (⟨_,⟨_,rfl⟩,rfl⟩) rfl (fU rfl T.dD (aj (aq az))) (fun b=>⟨lB,(bC (aU hr.aH) bD (ao (pv 1)) (aj (aM jA jD (aj (aM bh bT (ao (pv 2)) (aj (aM jz jE (aj (aq az)) (ao (pv 0)))))) (aj (aq az)))) (fun _ _=>rfl))⟩)))) (jr (cL aF) zp)) (rm rfl (dg (b7 (i:=7) aY.nd rfl (Or.inr rfl)) (dg (b7 (i:=8) aY.nd rfl (Or.inl rfl)) nQ)))) (aG (jG PassesOwn.never rfl (JP rfl T.dD (bL (aj (aq az)) (bL (aj (aq az)) cG))) (b7 (i:=9) aY.nd rfl (Or.inr rfl)) dB (aR (Vm (pv 8) (aj (sH (T:=.one) (NT:=(["_law_k"]:List Str)) (NF:=(["_law_stem","_law_size"]:List Str)) (js:=[7,9]) (uA.ok (N0:=(["_law_left","_law_many","_law_letters","_law_head","_law_tail","_law_first","_law_by","_law_stem","_law_found","_law_size","_law_k","_law_value","_law_two"]:List Str)) (Ds:=aD bO) (by decide +kernel) rfl rfl) (⟨_,⟨_,rfl⟩,rfl⟩) rfl (fU rfl T.dD (aj (aM Dy Fb (aj (aq az)) (ao (pv 9))))) (fun b=>⟨lB,(lY (ao (pv 1)) (jt (ao (pv 0))) (jt (aj (aM bh bT (ao (pv 0)) (ao (pv 2))))))⟩)))))) (aR (cu (lY (ao (pv 8)) oW (jt (ao (pv 1)))))))) gq) (aG (j0 (PW.pt (lg (bY (pC hr.DP) Mj (ao (pv 1)) (aj (aq az)) (b8 _)) (qz (bY (gQ hr.units) lR (aj (bA bf (hr.mono (by decide)) rfl (aa (aB (pv 0)) (aa (aq az) aF)))) (aj (aq az)) (b8 _))))) (aR (cu (sH (T:=.one) (NT:=(["_law_k"]:List Str)) (NF:=(["_law_letters","_law_first","_law_by"]:List Str)) (js:=[2,5,6]) (uA.ok (N0:=(["_law_left","_law_many","_law_letters","_law_head","_law_tail","_law_first","_law_by","_law_stem","_law_found","_law_size","_law_k","_law_value","_law_two"]:List Str)) (Ds:=aD bO) (by decide +kernel) rfl rfl) (⟨_,⟨_,rfl⟩,rfl⟩) rfl (fU rfl T.dD (ao (pv 1))) (fun b=>⟨lB,(bC (aU hr.aH) bD (ao (pv 1)) (aj (aM jA jD (aj (aM bh bT (ao (pv 2)) (aj (aM jz jE (ao (pv 3)) (ao (pv 0)))))) (aj (aq az)))) (fun _ _=>rfl))⟩)))) gq) (aG (bM (i:=8) aY.nd rfl (Or.inl rfl) (cL aF)) (aG (jG PassesOwn.never rfl (fU rfl T.dD (ao (pv 1))) (b7 (i:=10) aY.nd rfl (Or.inl rfl)) dB (aG (bM (i:=11) aY.nd rfl (Or.inl rfl) (aM jA jD (aj (aM bh bT (ao (pv 5)) (aj (aM jz jE (ao (pv 6)) (ao (pv 10)))))) (aj (aq az)))) (aG (bM (i:=12) aY.nd rfl (Or.inl rfl) (aM bh bT (aj (bC (aU hr.aH) bD (ao (pv 2)) (aj (aM yF zb (ao (pv 11)) (aj (aq az)))) (fun _ _=>rfl))) (aj (bC (aU hr.aH) bD (ao (pv 2)) (aj (aM jA jD (ao (pv 11)) (aj (aq az)))) (fun _ _=>rfl))))) (aR (rJ (pv 8) (aM bh bT (aj (aM bh bT (ao (pv 3)) (ao (pv 12)))) (aj (lY (ao (pv 4)) oW (jt (aj (aM jA jD (aj (aM bh bT (aj (aM jz jE (ao (pv 10)) (ao (pv 10)))) (ao (pv 5)))) (aj (aq az))))))))))))) (aR (jq (pv 8)))))))))))
theorem vM {P:Program} {w:World} {K:PySem.W.Frag} {mg:Str→Option Value} {base:Heap} {f:Addr} {fd:FuncData} (F:su K "_law_some_parts" "_law_some_parts" dm f fd) (T:Txt K mg) (bf:jl P w K mg base "_law_pick" 2 (["_law_left","_law_many"]:List Str) (spT K aN)):dG P w K mg base qb 3 f fd (["_law_left","_law_names"]:List Str) (spT K eG):=
 fW (body:=jJ) F fZ fun cdv A outer s H E hr=>(aG (bM (i:=2) fZ.nd rfl (Or.inl rfl) Mt) (aG (jG PassesOwn.never rfl (Q6 rfl T.gM (aB (pv 1))) (rm rfl (dg (b7 (i:=3) fZ.nd rfl (Or.inl rfl)) (dg (b7 (i:=4) fZ.nd rfl (Or.inl rfl)) nQ))) (Fi (j4 dB (j4 dB zm))) (aR (zx hr.aH (pv 2) (ao (pv 4)) (bC (aU hr.aH) bD (aj (aM bh bT (aj (cL (aa (aq ue) aF))) (aj (lY (ao (pv 1)) oW (jt (ao (pv 3))))))) (aj (Bq (bY Rx R3 (aj (bA bf (hr.mono (by decide)) rfl (aa (aB (pv 0)) (aa (aq az) aF)))) (aj (aq az)) (b8 _)) (bA bf (hr.mono (by decide)) rfl (aa (aB (pv 0)) (aa (aM bh bT (ao (pv 3)) (aj (aq az))) aF))) (aq az))) (fun _ _=>rfl))))) (aR (jq (pv 2)))))
theorem vN {P:Program} {w:World} {K:PySem.W.Frag} {mg:Str→Option Value} {base:Heap} {f:Addr} {fd:FuncData} (F:su K "_law_parts_over" "_law_parts_over" dw f fd) (T:Txt K mg):dG P w K mg base qb 1 f fd (["_law_parts","_law_part"]:List Str) (spT K eN):=
 fW (body:=jK) F jd fun cdv A outer s H E hr=>(aG (bM (i:=2) jd.nd rfl (Or.inl rfl) (cL aF)) (aG (qD PassesOwn.never (bY (kZ hr.aH) qx (ao (pv 1)) (ao (pv 0)) (by with_unfolding_all rfl)) (aG (rJ (pv 2) (aB (pv 1))) (aR (bM (i:=1) jd.nd rfl (Or.inl rfl) (bC (aU hr.aH) bD (ao (pv 0)) (ao (pv 1)) (fun _ _=>rfl)))))) (aR (jq (pv 2)))))
theorem Gi {P:Program} {w:World} {K:PySem.W.Frag} {mg:Str→Option Value} {base:Heap} {f:Addr} {fd:FuncData} (F:su K "_law_rising" "_law_rising" iI f fd) (T:Txt K mg) (bf:jl P w K mg base "_law_pick" 2 (["_law_left","_law_many"]:List Str) (spT K aN)):dG P w K mg base qb 3 f fd (["_law_left","_law_many"]:List Str) (spT K kj):=
 fW (body:=rT) F lC fun cdv A outer s H E hr=>(aG (UG (i:=2) (j:=3) rfl lC.nd rfl rfl (by decide) rfl rfl (jr (cL aF) (jr (bA bf (hr.mono (by decide)) rfl (aa (aB (pv 0)) (aa (aq az) aF))) zp)) rfl) (aG (jG PassesOwn.never rfl (fU rfl T.dD (ao (pv 1))) (b7 (i:=4) lC.nd rfl (Or.inl rfl)) dB (aG (rJ (pv 2) (aB (pv 3))) (aR (bM (i:=3) lC.nd rfl (Or.inl rfl) (aM bh bT (aj (aM bh bT (ao (pv 3)) (aj (aq az)))) (aj (aM jz jE (aj (bA bf (hr.mono (by decide)) rfl (aa (aB (pv 0)) (aa (aq az) aF)))) (aj (bA bf (hr.mono (by decide)) rfl (aa (aB (pv 0)) (aa (aq az) aF))))))))))) (aR (jq (pv 2)))))
theorem zX {P:Program} {w:World} {K:PySem.W.Frag} {mg:Str→Option Value} {base:Heap} {f:Addr} {fd:FuncData} (F:su K "_law_house_of" "_law_house_of" fK f fd) (T:Txt K mg):dG P w K mg base qb 1 f fd (["_law_parts","_law_leaves"]:List Str) (spT K gP):=
 fW (body:=nH) F zR fun cdv A outer s H E hr=>(aR (cu (cO (aa (jZ oO BR rfl T.iC (by decide +kernel) (bL (aj (JX rfl (ao (pv 0)) rfl T.j6)) cG)) (aa (cO aF) (aa (jZ oO BR rfl T.iC (by decide +kernel) (bL (ao (pv 1)) cG)) (aa (cO aF) aF)))))))
theorem Ob {P:Program} {w:World} {K:PySem.W.Frag} {mg:Str→Option Value} {base:Heap} {f:Addr} {fd:FuncData} (F:su K "_law_lets" "_law_lets" oA f fd) (T:Txt K mg) (jL:jl P w K mg base "_law_parts_over" 1 (["_law_parts","_law_part"]:List Str) (spT K eN)):dG P w K mg base qb 2 f fd (["_law_parts","_law_paper","_law_day","_law_leave"]:List Str) (spT K qR):=
 fW (body:=oE) F N6 fun cdv A outer s H E hr=>(aG (j0 (PW.pt (Bm (bY (kZ hr.aH) qx (aj (bC (aU hr.aH) bD (ao (pv 3)) (aj (aq az)) (fun _ _=>rfl))) (aj (lY (ao (pv 1)) (jt (aj (aq az))) oW)) (by with_unfolding_all rfl)) (Bm (bY (kZ hr.aH) qx (aj (bC (aU hr.aH) bD (ao (pv 3)) (aj (aq az)) (fun _ _=>rfl))) (aj (lY (ao (pv 1)) (jt (aj (aq az))) oW)) (by with_unfolding_all rfl)) (zg (bY (rE hr.aH) uN (aj (bC (aU hr.aH) bD (ao (pv 3)) (aj (aq az)) (fun _ _=>rfl))) (aj (bA jL (hr.mono (by decide)) rfl (aa (aB (pv 0)) (aa (bC (aU hr.aH) bD (ao (pv 1)) (aj (aq az)) (fun _ _=>rfl)) aF)))) (by with_unfolding_all rfl)))))) (aR (cu (aq wU))) gq) (aR (cu (rG (Ut rD xO rD xO (aj (bC (aU hr.aH) bD (ao (pv 3)) (aj (aq az)) (fun _ _=>rfl))) (ao (pv 2)) (aj (bC (aU hr.aH) bD (ao (pv 3)) (aj (aq az)) (fun _ _=>rfl)))) (uQ (jC rD xO (aj (bC (aU hr.aH) bD (ao (pv 1)) (aj (aq az)) (fun _ _=>rfl))) (aj (bC (aU hr.aH) bD (ao (pv 3)) (aj (aq az)) (fun _ _=>rfl))) (b8 _)))))))
theorem wK {P:Program} {w:World} {K:PySem.W.Frag} {mg:Str→Option Value} {base:Heap} {f:Addr} {fd:FuncData} (F:su K "_law_one_right" "_law_one_right" cY f fd) (T:Txt K mg) (qT:jl P w K mg base "row_of" 3 (["house","paper","holder","signer","day"]:List Str) (spT K j7)) (bf:jl P w K mg base "_law_pick" 2 (["_law_left","_law_many"]:List Str) (spT K aN)) (oF:jl P w K mg base "_law_same" 3 (["_law_found","_law_due"]:List Str) (spT K (dF 3))) (jM:jl P w K mg base "_law_some_names" 3 (["_law_left","_law_many"]:List Str) (spT K eF)) (jN:jl P w K mg base "_law_some_parts" 3 (["_law_left","_law_names"]:List Str) (spT K eG)) (rW:jl P w K mg base "_law_rising" 3 (["_law_left","_law_many"]:List Str) (spT K kj)) (nM:jl P w K mg base "_law_house_of" 1 (["_law_parts","_law_leaves"]:List Str) (spT K gP)) (zY:jl P w K mg base "_law_lets" 2 (["_law_parts","_law_paper","_law_day","_law_leave"]:List Str) (spT K qR)):dG P w K mg base qb 4 f fd (["_law_left"]:List Str) (spT K gh):=
 fW (body:=lK) F aO fun cdv A outer s H E hr=>(aG (bM (i:=1) aO.nd rfl (Or.inl rfl) (bA jM (hr.mono (by decide)) rfl (aa (aB (pv 0)) (aa (aq az) aF)))) (aG (bM (i:=2) aO.nd rfl (Or.inr rfl) (bA jN (hr.mono (by decide)) rfl (aa (aB (pv 0)) (aa (lY (ao (pv 1)) oW (jt (aj (aM bh bT (aj (aq az)) (aj (bA bf (hr.mono (by decide)) rfl (aa (aB (pv 0)) (aa (aq az) aF)))))))) aF)))) (aG (bM (i:=3) aO.nd rfl (Or.inl rfl) (cO (aa (bC (aU hr.aH) bD (ao (pv 1)) (aj (bA bf (hr.mono (by decide)) rfl (aa (aB (pv 0)) (aa (fQ nZ zA rfl T.oZ (by decide +kernel) (bL (ao (pv 2)) cG)) aF)))) (fun _ _=>rfl)) (aa (aq az) (aa (bC (aU hr.aH) bD (ao (pv 1)) (aj (aq az)) (fun _ _=>rfl)) (aa (bC (aU hr.aH) bD (ao (pv 1)) (aj (bC (aU hr.aH) bD (aj (cL (aa (aq az) (aa (aq az) aF)))) (aj (bA bf (hr.mono (by decide)) rfl (aa (aB (pv 0)) (aa (aq az) aF)))) (fun _ _=>rfl))) (fun _ _=>rfl)) aF)))))) (aG (zu (is:=[4,5]) (jr (aM bh bT (aj (aq az)) (aj (bA bf (hr.mono (by decide)) rfl (aa (aB (pv 0)) (aa (aq az) aF))))) (jr (cL aF) zp)) (rm rfl (dg (b7 (i:=4) aO.nd rfl (Or.inr rfl)) (dg (b7 (i:=5) aO.nd rfl (Or.inl rfl)) nQ)))) (aG (jG PassesOwn.never rfl (U0 (bA rW (hr.mono (by decide)) rfl (aa (aB (pv 0)) (aa (aM bh bT (aj (aq az)) (aj (bA bf (hr.mono (by decide)) rfl (aa (aB (pv 0)) (aa (aq az) aF))))) aF)))) (b7 (i:=6) aO.nd rfl (Or.inl rfl)) dB (aG (bM (i:=7) aO.nd rfl (Or.inl rfl) (jZ wV M7 rfl T.vH (by decide +kernel) (bL (aj (jC (gQ hr.units) lR (aj (bA bf (hr.mono (by decide)) rfl (aa (aB (pv 0)) (aa (aq az) aF)))) (aj (aq az)) (b8 _))) cG))) (aG (bM (i:=8) aO.nd rfl (Or.inl rfl) (bC (aU hr.aH) bD (aj (cL (aa (cO (aa (aB (pv 4)) (aa (aB (pv 4)) aF))) (aa (cO (aa (aq az) (aa (aB (pv 4)) aF))) (aa (cO (aa (aB (pv 4)) (aa (aq az) aF))) (aa (cO (aa (aq az) (aa (aM Dy Fb (ao (pv 4)) (aj (aq az))) aF))) (aa (cO (aa (aM bh bT (ao (pv 4)) (aj (aq az))) (aa (aM bh bT (ao (pv 4)) (aj (aq az))) aF))) (aa (cO (aa (aq az) (aa (aq az) aF))) aF)))))))) (aj (bA bf (hr.mono (by decide)) rfl (aa (aB (pv 0)) (aa (aq az) aF)))) (fun _ _=>rfl))) (aG (bM (i:=9) aO.nd rfl (Or.inl rfl) (Bq (bY (gQ hr.units) lR (aj (bA bf (hr.mono (by decide)) rfl (aa (aB (pv 0)) (aa (aq az) aF)))) (aj (aq az)) (b8 _)) (bC (aU hr.aH) bD (ao (pv 1)) (aj (bA bf (hr.mono (by decide)) rfl (aa (aB (pv 0)) (aa (fQ nZ zA rfl T.oZ (by decide +kernel) (bL (ao (pv 2)) cG)) aF)))) (fun _ _=>rfl)) (bC (aU hr.aH) bD (ao (pv 3)) (aj (aq az)) (fun _ _=>rfl)))) (aG (bM (i:=10) aO.nd rfl (Or.inl rfl) (cO (aa (bC (aU hr.aH) bD (ao (pv 1)) (aj (aM bh bT (aj (aq az)) (ao (pv 7)))) (fun _ _=>rfl)) (aa (bC (aU hr.aH) bD (ao (pv 1)) (aj (aM Dy Fb (aj (aq az)) (ao (pv 7)))) (fun _ _=>rfl)) aF)))) (aR (rJ (pv 5) (aM bh bT (aj (aM bh bT (aj (aM bh bT (aj (aM bh bT (aj (cO (aa (aB (pv 6)) aF))) (ao (pv 10)))) (aj (cO (aa (aB (pv 9)) aF))))) (ao (pv 8)))) (aj (cO (aa (bC (aU hr.aH) bD (aj (cL (aa (aq az) (aa (aq az) (aa (aq az) (aa (aM Ky Mi (aj (aq az)) (aj (aq az))) aF)))))) (aj (bA bf (hr.mono (by decide)) rfl (aa (aB (pv 0)) (aa (aq az) aF)))) (fun _ _=>rfl)) aF))))))))))) (aG (bM (i:=11) aO.nd rfl (Or.inl rfl) (bA nM (hr.mono (by decide)) rfl (aa (aB (pv 2)) (aa (aB (pv 5)) aF)))) (aG (bM (i:=12) aO.nd rfl (Or.inl rfl) (jZ (yp hr.gd hr.units) HS rfl T.qQ (by decide +kernel) (bL (aj (cL (aa (aB (pv 11)) (aa (aB (pv 3)) aF)))) cG))) (aG (jG PassesOwn.never rfl (U0 (cL (aa (aB (pv 3)) (aa (aM bh bT (aj (lY (ao (pv 3)) oW (jt (aj (aq az))))) (aj (cO (aa (bC (aU hr.aH) bD (ao (pv 1)) (aj (aq az)) (fun _ _=>rfl)) (aa (bC (aU hr.aH) bD (ao (pv 1)) (aj (aq az)) (fun _ _=>rfl)) aF))))) (aa (aM bh bT (aj (lY (ao (pv 3)) oW (jt (aj (aq az))))) (aj (cO (aa (bC (aU hr.aH) bD (ao (pv 1)) (aj (aq az)) (fun _ _=>rfl)) (aa (bC (aU hr.aH) bD (ao (pv 1)) (aj (aq az)) (fun _ _=>rfl)) aF))))) aF))))) (b7 (i:=13) aO.nd rfl (Or.inr rfl)) dB (aR (jG PassesOwn.never rfl (Xk (cL (aa (cO (aa (bC (aU hr.aH) bD (ao (pv 1)) (aj (aq az)) (fun _ _=>rfl)) (aa (bC (aU hr.aH) bD (ao (pv 1)) (aj (aq az)) (fun _ _=>rfl)) aF))) (aa (cO (aa (bC (aU hr.aH) bD (ao (pv 1)) (aj (aq az)) (fun _ _=>rfl)) (aa (bC (aU hr.aH) bD (ao (pv 1)) (aj (aq az)) (fun _ _=>rfl)) aF))) aF)))) (rm rfl (dg (b7 (i:=14) aO.nd rfl (Or.inr rfl)) (dg (b7 (i:=15) aO.nd rfl (Or.inl rfl)) nQ))) (Fi (j4 dB (j4 dB zm))) (aG (M3 (i:=16) (T:=.one) (NT:=(["_law_leave"]:List Str)) (NF:=(["_law_holder","_law_parts","_law_some","_law_day"]:List Str)) (js:=[14,2,13,4]) (uA.ok (N0:=(["_law_left","_law_names","_law_parts","_law_paper","_law_day","_law_leaves","_law_number","_law_turned","_law_days","_law_part","_law_both","_law_house","_law_kept","_law_some","_law_holder","_law_signer","_law_fine","_law_due"]:List Str)) (Ds:=aD cY) (by decide +kernel) rfl rfl) (⟨_,⟨_,rfl⟩,rfl⟩) rfl (ZD (ao (pv 5))) (fun b=>⟨(tX (PW.pt (lg (bY (gQ hr.units) lR (aj (bC (aU hr.aH) bD (ao (pv 0)) (aj (aq az)) (fun _ _=>rfl))) (ao (pv 1)) (b8 _)) (qz (gR (aj (bA zY (hr.mono (by decide)) rfl (aa (aB (pv 2)) (aa (aB (pv 3)) (aa (aB (pv 4)) (aa (aB (pv 0)) aF))))))))))),(bC (aU hr.aH) bD (ao (pv 0)) (aj (aq az)) (fun _ _=>rfl))⟩) (by rfl) aO.nd rfl rfl) (aG (j0 (uO (gR (aj (bA oF (hr.mono (by decide)) rfl (aa (bA qT (hr.mono (by decide)) rfl (aa (aB (pv 11)) (aa (aB (pv 13)) (aa (aB (pv 14)) (aa (aB (pv 15)) (aa (aB (pv 4)) aF)))))) (aa (Bq (bY (zc hr.units) G9 (ao (pv 16)) (aj (cL aF)) (b8 _)) (lY (ao (pv 16)) oW (jt (aj (aq az)))) (aq ud)) aF)))))) (aR (cu (aq wU))) gq) (aG (bM (i:=17) aO.nd rfl (Or.inl rfl) (Bq (bY (kZ hr.aH) qx (ao (pv 14)) (aj (lY (ao (pv 13)) (jt (aj (aq az))) oW)) (by with_unfolding_all rfl)) (aq ud) (cL aF))) (aR (j0 (uO (gR (aj (bA oF (hr.mono (by decide)) rfl (aa (bA qT (hr.mono (by decide)) rfl (aa (aB (pv 11)) (aa (aB (pv 13)) (aa (aB (pv 14)) (aa (aB (pv 14)) (aa (aB (pv 4)) aF)))))) (aa (aB (pv 17)) aF)))))) (aR (cu (aq wU))) gq)))))))) (aR (cu (jC (gQ hr.units) lR (aj (jZ (yp hr.gd hr.units) HS rfl T.qQ (by decide +kernel) (bL (aj (cL (aa (aB (pv 11)) (aa (aB (pv 3)) aF)))) cG))) (ao (pv 12)) (b8 _))))))))))))
theorem Vq {P:Program} {w:World} {K:PySem.W.Frag} {mg:Str→Option Value} {base:Heap} {f:Addr} {fd:FuncData} (F:su K "law" "law" qP f fd) (T:Txt K mg) (jO:jl P w K mg base "_law_drawn_from" 1 (["_law_script","_law_k"]:List Str) (spT K d9)) (lO:jl P w K mg base "_law_one_right" 4 (["_law_left"]:List Str) (spT K gh)):dG P w K mg base qb 5 f fd (["_law_script"]:List Str) (spT K yt):=
 fW (body:=N7) F zT fun cdv A outer s H E hr=>(aG (jG PassesOwn.never rfl (fU rfl T.dD (aj (aM bh bT (aj (aq az)) (aj (fQ (IK rfl) QF rfl T.yr (by decide +kernel) (bL (aj (aq az)) (bL (aj (Hv (pv 0) rfl T.oZ (by decide +kernel))) cG))))))) (b7 (i:=1) zT.nd rfl (Or.inl rfl)) dB (aG (UT (i:=2) zT.nd rfl (Or.inl rfl) (bA jO (hr.mono (by decide)) rfl (aa (aB (pv 0)) (aa (aB (pv 1)) aF)))) (aR (jG PassesOwn.never rfl (fU rfl T.dD (aj (aq az))) (b7 (i:=3) zT.nd rfl (Or.inl rfl)) dB (aR (j0 (uO (gR (aj (bA lO (hr.mono (by decide)) rfl (aa (aB (pv 2)) aF))))) (aR (cu (aq wU))) gq)))))) (aR (cu (aq wU))))
local macro_rules | `(tactic| simp_arith [$ts,*])=>`(tactic| simp only [e_bin,e_dat,e_bv,e_and,e_or,e_not,e_if,e_ifv,fVar,fTst,fTru,truD,fCst,dat,still,fCal,fFun,aCons,aNil,bCons,bNil,oCons,fSet,fSeq,fRet,fRetV,fNext,fNeg,fLst,fTup,allIm,iB,iV,iB2,iV2,itD,itD2,fLC,frB,fPar,setM,fUnp,gTp,gsCons,gsNil,gNm,LIM,add_int,sub_int,le_int,lt_int,ge_int,gt_int,eq_int,eq_strs,ne_strs,in_strs,ix_t,ix_l,a_t0,a_t1,a_t2,a_t3,a_t4,a_t5,a_t6,rst_same,r_ow,r_bool,r_int,r_str,r_tl,Option.bind_some,Option.map_some,List.getElem?_cons_zero,List.getElem?_cons_succ,List.set_cons_zero,List.set_cons_succ,List.map_cons,List.map_nil,List.length_cons,List.length_nil,Bool.not_true,Bool.not_false,if_true,if_false,ite_self,Bool.false_eq_true,Option.join,id_eq,Nat.reduceAdd,Nat.reduceLeDiff,Nat.reduceLT,and_true,true_and,and_self,String.reduceBEq,Bool.or_false,Bool.or_true,Bool.false_or,Bool.true_or,Bool.and_true,Bool.and_false,Bool.true_and,Bool.false_and,decide_true,decide_false,reduceCtorEq,eq_bool,ne_bool,ne_int,len_l,len_t,beq_self_eq_true,List.length_map,h_ix0,h_ix1,h_ix2,h_ix3,k_ix0,k_ix1,k_ix2,k_ix3,k_ix4,k_ix5,noLs_strs,noLs_ints,$ts,*])
theorem Oc {C:Ce} {c k:Int} (k0:0≤k) (k1:k≤1000000):∃r:Int,rR [.im (.int c),.im (.int k)] C=some (.im (.int r),C)∧0≤r:=by
 obtain ⟨m,hm⟩:∃m,(c % 2147483629 + k * k * 7919 + 11) * 48271 % 2147483647=m:=⟨_,rfl⟩
 have m0:0≤m:=by rw [←hm]; exact Int.emod_nonneg _ (by decide)
 have m1:m < 2147483647:=by rw [←hm]; exact Int.emod_lt_of_pos _ (by decide)
 refine ⟨m * m % 1999999973,cF [some (.im (.int c)),some (.im (.int k)),none] rfl rfl ?_ rfl rfl,Int.emod_nonneg _ (by decide)⟩
 simp_arith [Gf,mod_eq (i:=c) (j:=2147483629) (by decide),mul_eq (i:=k) (j:=k) (.inl (by omega)),mul_eq (i:=k * k) (j:=7919) (.inr (by decide)),mul_eq (i:=c % 2147483629 + k * k * 7919 + 11) (j:=48271) (.inr (by decide)),mod_eq (i:=(c % 2147483629 + k * k * 7919 + 11) * 48271) (j:=2147483647) (by decide),hm,mul_eq (i:=m) (j:=m) (.inl (by omega)),mod_eq (i:=m * m) (j:=1999999973) (by decide)]
theorem bZ {C:Ce} {b L k:Nat} {m:Int} (h:Bl L C b (k + 1)) (h0:0 < m) (h1:m < 1073741824):
  ∃t C',aN [.ce b,.im (.int m)] C=some (.im (.int t),C')∧0≤t∧t < m∧Bl L C' b k:=by
 obtain ⟨hL,x,y,z,hc,hx,hz,hz2⟩:=h
 have i0:Ea 3 0=some 0:=rfl
 have i2:Ea 3 2=some 2:=rfl
 have c2:(C.set b [x,y,z + 1])[b]?=some [x,y,z + 1]:=Nj hc
 by_cases hp:0 < x
 ·refine ⟨x % m,(C.set b [x,y,z + 1]).set b [x / m,y,z + 1],cF [some (.ce b),some (.im (.int m)),none] rfl rfl ?_ rfl (by simp),Int.emod_nonneg _ (by omega),Int.emod_lt_of_pos _ h0,⟨by simpa using hL,x / m,y,z + 1,Nj c2,Int.ediv_nonneg hx (by omega),by omega,by omega⟩⟩
  simp_arith [tZ,u6,hc,c2,hp,mod_eq h0,fdiv_eq h0 h1,uV,sG,i0,i2]
 ·obtain ⟨r1,e1,p1⟩:=Oc (C:=C.set b [x,y,z + 1]) (c:=y) (k:=z + 1) (by omega) (by omega)
  obtain ⟨r2,e2,p2⟩:=Oc (C:=C.set b [x,y,z + 1]) (c:=r1) (k:=z + 1 + 64) (by omega) (by omega)
  refine ⟨r2 / 64 % m,C.set b [x,y,z + 1],cF [some (.ce b),some (.im (.int m)),none] rfl rfl ?_ rfl (by simp),Int.emod_nonneg _ (by omega),Int.emod_lt_of_pos _ h0,⟨by simpa using hL,x,y,z + 1,c2,hx,by omega,by omega⟩⟩
  simp_arith [tZ,u6,hc,c2,hp,uV,sG,i0,i2,e1,e2,fdiv_eq (j:=64) (by omega) (by omega),mod_eq h0]
theorem Od {C:Ce} {ns:List Int} {k:Int} (k0:0≤k) (k9:k≤100):∃x y:Int,d9 [.sc ns,.im (.int k)] C=some (.ow (.list [.int x,.int y,.int 0]),C)∧0≤x:=by
 obtain ⟨c,hc⟩:∃c:Int,uP (fTst (aC zf (aA 1) (au (sI 0)))) (M4 0 (aA 1)) (fCst (.int 0)) [some (.sc ns),some (.im (.int k)),none] C=some (.im (.int c),[some (.sc ns),some (.im (.int k)),none],C):=by
  by_cases h:k < ns.length
  ·obtain ⟨c,hc,_⟩:=Nk (xs:=ns) k0 h
   exact ⟨c,by simp_arith [sI,M4,h,hc]⟩
  ·exact ⟨0,by simp_arith [sI,h]⟩
 have a0:0≤(if c < 0 then -c else c):=by split <;> omega
 obtain ⟨a,hA⟩:∃a,(if c < 0 then -c else c)=a:=⟨_,rfl⟩
 rw [hA] at a0
 have pw:xM (.int 10) (.int 18)=some (.im (.int 1000000000000000000)):=rfl
 obtain ⟨j,x,hj,hx,x0⟩:∃(j x:Int),(if decide (1000000000000000000≤a)=true then (1:Int) else 0)=j∧iD [PyData.int 0,.int a] j=some (.int x)∧0≤x:=by
  by_cases h:1000000000000000000≤a
  ·exact ⟨1,a,by rw [if_pos (decide_eq_true h)],rfl,a0⟩
  ·exact ⟨0,0,by rw [if_neg (by simpa using h)],rfl,Int.le_refl _⟩
 refine ⟨x,c + 1000003 * k,cF [some (.sc ns),some (.im (.int k)),none] rfl rfl ?_ rfl rfl,x0⟩
 simp_arith [jH,↓hc,BL,hA,pw,uX,hj,hx,mul_eq (i:=1000003) (j:=k) (.inl (by decide))]
theorem Rc {fe:FE} (he:fe=aC aZ (aA 1) (au (fCal aN (aCons (fVar 2) (aCons (fCst (.int 26)) aNil))))) {C:Ce} {b L j:Nat} {size:Int} (h:Bl L C b (j + 3)) (h0:0≤size) (h1:size≤3):
  ∃(cs:List Nat) (C':Ce),fV .one gH fe [some (.im (.str abc)),some (.ce b)] (iT 0 size.toNat) C=some ((cs.map fun c=>.str ⟨#[c]⟩),C')∧cs.length=size.toNat∧(∀c∈cs,97≤c∧c≤122)∧Bl L C' b j:=by
 subst he
 refine hide fun GG gg=>?_
 obtain ⟨ys,C',e,hB,hl,hr⟩:=xV (T:=.one) (fe:=aC aZ (aA 1) (au (fCal aN (aCons (fVar 2) (aCons (fCst (.int 26)) aNil))))) (fs:=[some (.im (.str abc)),some (.ce b)]) (fun i C1=>Bl L C1 b (j + (3 - i))) (fun _ y=>∃c:Nat,y=.str ⟨#[c]⟩∧97≤c∧c≤122) (its:=iT 0 size.toNat) (C:=C) (k:=0) h (fun i d C1 hd hB=>by
  obtain ⟨rfl,hi⟩:=oh hd
  rw [Nat.zero_add] at hB ⊢
  rw [Vk j (by omega:i < 3)] at hB
  obtain ⟨k1,C2,e1,a1,b1,Dt⟩:=bZ (m:=26) hB (by decide) (by decide)
  refine ⟨_,.im (.str ⟨#[97 + k1.toNat]⟩),[some (.im (.int (0 + i))),some (.im (.str abc)),some (.ce b)],C2,.str ⟨#[97 + k1.toNat]⟩,rfl,?_,rfl,⟨_,rfl,by omega,by omega⟩,Dt⟩
  simp_arith [ji,List.cons_append,List.nil_append,e1,aZ,letters k1 a1 b1])
 rw [qJ] at hB hl
 obtain ⟨cs,rfl,hcs⟩:∃cs:List Nat,ys=cs.map (fun c=>.str ⟨#[c]⟩)∧∀c∈cs,97≤c∧c≤122:=by
  clear e hl hB gg
  induction ys with
  | nil=>exact ⟨[],rfl,fun _ m=>(nomatch m)⟩
  | cons y ys ih=>
   obtain ⟨c,rfl,c1,c2⟩:=hr 0 y rfl
   obtain ⟨cs,rfl,h2⟩:=ih fun i z hz=>hr (i + 1) z (by simpa using hz)
   exact ⟨c::cs,rfl,fun x hx=>by
    rcases List.mem_cons.mp hx with rfl | hx
    ·exact ⟨c1,c2⟩
    ·exact h2 x hx⟩
 exact gg ⟨cs,C',e,by simpa using hl,hcs,hB.mono (Nat.le_add_right _ _)⟩
theorem HY {cs:List Nat} (h:cs.length≤100):∃z:Str,zE (.str (Str.ofString "")) (.list (cs.map fun c=>.str ⟨#[c]⟩))=some (.im (.str z))∧z.cps.toList=cs∧z.length=cs.length:=by
 refine ⟨Txt.join (Str.ofString "") (cs.map fun c=>⟨#[c]⟩),?_,vd cs,?_⟩
 ·simp only [zE,qN]
  refine if_pos ?_
  rw [List.map_map,HB,JQ,Nat.mul_zero]
  unfold LIM
  omega
 ·have:=congrArg List.length (vd cs)
  rw [←this]
  show _=(Txt.join (Str.ofString "") (cs.map fun c=>⟨#[c]⟩)).cps.toList.length
  simp
  rfl
theorem zZ (n:Nat):iT 0 n=(List.range n).map fun (i:Nat)=>PyData.int (i:Int):=by
 unfold iT
 refine List.map_congr_left fun i _=>?_
 rw [Int.zero_add]
theorem J1 {C:Ce} (f:Int):fV .one gH dU [some (.im (.str abc)),some (.im (.int f))] (iT 0 8) C=some ((gK f).map (fun c=>.str ⟨#[c]⟩),C):=by
 rw [zZ]
 have:=dJ (T:=.one) (ft:=gH) (fe:=dU) (fs:=[some (.im (.str abc)),some (.im (.int f))]) (C:=C) (fun (i:Nat)=>PyData.int (i:Int)) (fun _=>true) (fun (k:Nat)=>.str ⟨#[97 + ((f + 5 * (k:Int)) % 26).toNat]⟩) (l:=List.range 8) fun k _=>by
  have a1:0≤(f + 5 * (k:Int)) % 26:=Int.emod_nonneg _ (by decide)
  have a2:(f + 5 * (k:Int)) % 26 < 26:=Int.emod_lt_of_pos _ (by decide)
  refine ⟨[.int (k:Int)],rfl,rfl,fun _=>⟨.im (.str ⟨#[97 + ((f + 5 * (k:Int)) % 26).toNat]⟩),[some (.im (.int (k:Int))),some (.im (.str abc)),some (.im (.int f))],?_,rfl⟩⟩
  simp_arith [ji,List.cons_append,List.nil_append,mul_eq (i:=5) (j:=(k:Int)) (.inl (by decide)),mod_eq (i:=f + 5 * (k:Int)) (j:=26) (by decide),aZ,letters _ a1 a2]
 rw [List.filter_eq_self.mpr fun _ _=>rfl] at this
 unfold gK
 rw [List.map_map]
 exact this
theorem Oe {C:Ce} {f s:Int} (s0:0 < s) (s1:s≤675) (n:Nat):fV .one gH dR [some (.im (.str abc)),some (.im (.int f)),some (.im (.int s))] (iT 0 n) C=some (((List.range n).map (n1 f s)).map .str,C):=by
 rw [zZ]
 have:=dJ (T:=.one) (ft:=gH) (fe:=dR) (fs:=[some (.im (.str abc)),some (.im (.int f)),some (.im (.int s))]) (C:=C) (fun (i:Nat)=>PyData.int (i:Int)) (fun _=>true) (fun (k:Nat)=>.str (n1 f s k)) (l:=List.range n) fun k _=>by
  have a1:0≤(f + s * (k:Int)) % 26:=Int.emod_nonneg _ (by decide)
  have a2:(f + s * (k:Int)) % 26 < 26:=Int.emod_lt_of_pos _ (by decide)
  refine ⟨[.int (k:Int)],rfl,rfl,fun _=>⟨.im (.str (n1 f s k)),[some (.im (.int (k:Int))),some (.im (.str abc)),some (.im (.int f)),some (.im (.int s))],?_,rfl⟩⟩
  simp_arith [ji,List.cons_append,List.nil_append,mul_eq (i:=s) (j:=(k:Int)) (.inl (by omega)),mod_eq (i:=f + s * (k:Int)) (j:=26) (by decide),aZ,letters _ a1 a2]
  rfl
 rw [List.filter_eq_self.mpr fun _ _=>rfl] at this
 rw [List.map_map]
 exact this
theorem Og {C:Ce} {z:Str} (hz:z.length≤8) (n:Nat):fV .one gH gw [some (.im (.str z)),some (.im (.int (1 + (n:Int))))] (iT 0 (8 - n)) C=some ((sb z n).map .str,C):=by
 rw [zZ]
 have hl:(z.length≤1000000)=True:=eq_true (by omega)
 have:=dJ (T:=.one) (ft:=gH) (fe:=gw) (fs:=[some (.im (.str z)),some (.im (.int (1 + (n:Int))))]) (C:=C) (fun (i:Nat)=>PyData.int (i:Int)) (fun _=>true) (fun (k:Nat)=>.str (sl z (n + 1) k)) (l:=List.range (8 - n)) fun k _=>by
  refine ⟨[.int (k:Int)],rfl,rfl,fun _=>⟨.im (.str (sl z (n + 1) k)),[some (.im (.int (k:Int))),some (.im (.str z)),some (.im (.int (1 + (n:Int))))],?_,rfl⟩⟩
  have e:(k:Int) + (1 + (n:Int))=(k:Int) + ((n + 1:Nat):Int):=by omega
  simp_arith [ji,List.cons_append,List.nil_append,oV,n6,Cj,hl,e]
  rfl
 rw [List.filter_eq_self.mpr fun _ _=>rfl] at this
 unfold sb
 rw [List.map_map]
 exact this
theorem Oh {x y:Str} (h:x.length + y.length≤1000000):aX (.str x) (.str y)=some (.im (.str (x++y))):=if_pos h
noncomputable abbrev mL (b:Nat) (m:Int) (hd tl:Str) (f s:Int) (v7 v8 v9 v10 v11 fM:Option Vl):En:=
 [some (.ce b),some (.im (.int m)),some (.im (.str abc)),some (.im (.str hd)),some (.im (.str tl)),some (.im (.int f)),some (.im (.int s)),v7,v8,v9,v10,v11,fM]
theorem Xu {C:Ce} {b:Nat} {m f s k q:Int} {hd tl:Str} {v7 v8 v9 v11 fM:Option Vl} (k0:0≤k) (k1:k < 40) (hq:(k * k + f) % 4=q):aC fD (au (aC aX (au (aC fP (aA 10) (aA 10))) (aA 5))) (au (fCst (.int 4))) (mL b m hd tl f s v7 v8 v9 (some (.im (.int k))) v11 fM) C=some (.im (.int q),mL b m hd tl f s v7 v8 v9 (some (.im (.int k))) v11 fM,C):=by
 have m1:fP (.int k) (.int k)=some (.im (.int (k * k))):=mul_eq (.inl (by omega))
 generalize k * k=kk at m1 hq
 have m2:fD (.int (kk + f)) (.int 4)=some (.im (.int ((kk + f) % 4))):=mod_eq (by omega)
 rw [hq] at m2
 simp_arith [mL,m1,m2]
theorem Xv {C:Ce} {b:Nat} {m f s k q:Int} {hd tl cut:Str} {v7 v8 v9 v11 fM:Option Vl} (k0:0≤k) (k1:k < 40) (hq:(k * k + f) % 4=q) (ht:tl.length≤3) (hc:Txt.slice tl none (some q)=cut):oV (aA 4) rK (n6 (au (aC fD (au (aC aX (au (aC fP (aA 10) (aA 10))) (aA 5))) (au (fCst (.int 4)))))) (mL b m hd tl f s v7 v8 v9 (some (.im (.int k))) v11 fM) C=some (.im (.str cut),mL b m hd tl f s v7 v8 v9 (some (.im (.int k))) v11 fM,C):=by
 have e:=Xu (C:=C) (b:=b) (m:=m) (s:=s) (hd:=hd) (tl:=tl) (v7:=v7) (v8:=v8) (v9:=v9) (v11:=v11) (fM:=fM) k0 k1 hq
 have q1:(tl.length≤1000000)=True:=eq_true (by omega)
 simp only [mL] at e ⊢
 simp_arith [oV,rK,n6,↓e,Cj,q1,hc]
theorem Vr {C:Ce} {b:Nat} {m f s k q v:Int} {hd tl cut tw ht nm:Str} {acc:List PyData} {v7 v9:Option Vl} (k0:0≤k) (k1:k < 40) (hq:(k * k + f) % 4=q) (hl:tl.length≤3) (hc:Txt.slice tl none (some q)=cut) (t2:aX (.str hd) (.str tw)=some (.im (.str ht))) (t3:aX (.str ht) (.str cut)=some (.im (.str nm))) (la:(acc.length < 1000000)=True):
  oM 8 (aC aX (au (aC aX (aA 3) (aA 12))) (au (oV (aA 4) rK (n6 (au (aC fD (au (aC aX (au (aC fP (aA 10) (aA 10))) (aA 5))) (au (fCst (.int 4))))))))) (mL b m hd tl f s v7 (some (.ow (.list acc))) v9 (some (.im (.int k))) (some (.im (.int v))) (some (.im (.str tw)))) C=some (.nx,mL b m hd tl f s v7 (some (.ow (.list (acc++[.str nm])))) v9 (some (.im (.int k))) (some (.im (.int v))) (some (.im (.str tw))),C):=by
 have e:=Xv (C:=C) (b:=b) (m:=m) (s:=s) (hd:=hd) (tl:=tl) (v7:=v7) (v8:=some (.ow (.list acc))) (v9:=v9) (v11:=some (.im (.int v))) (fM:=some (.im (.str tw))) k0 k1 hq hl hc
 simp only [mL] at e ⊢
 simp_arith [oM,lX,t2,↓e,t3,la]
theorem Vs {C:Ce} {b:Nat} {m f s:Int} {hd tl z:Str} {i:Nat} {v10 v11 fM:Option Vl} (hz:z.length=8) (hi:i < 8):
  cB (mL b m hd tl f s (some (.im (.str z))) (some (.ow (.list ((subs z i).map .str)))) (some (.im (.int (1 + (i:Int))))) v10 v11 fM) C=some (.nx,mL b m hd tl f s (some (.im (.str z))) (some (.ow (.list ((subs z (i + 1)).map .str)))) (some (.im (.int (1 + (i:Int))))) v10 v11 fM,C):=by
 have e:=Og (C:=C) (z:=z) (by omega) i
 have e1:(9 - (1 + (i:Int))).toNat=8 - i:=by omega
 have l1:(sb z i).length≤8:=by unfold sb; rw [List.length_map,List.length_range]; omega
 have l2:(subs z i).length≤64:=by
  unfold subs sb
  rw [List.length_flatMap]
  have:∀n,n≤8→((List.range n).map fun a=>((List.range (8 - a)).map (sl z (a + 1))).length).sum≤8 * n:=by
   intro n
   induction n with
   | zero=>intro _; exact Nat.le_refl _
   | succ n ih=>
    intro h
    rw [List.range_succ,List.map_append,List.sum_append]
    have:=ih (by omega)
    simp only [List.map_cons,List.map_nil,List.sum_cons,List.sum_nil,List.length_map,List.length_range] at this ⊢
    omega
  have:=this i (by omega)
  omega
 have q1:((sb z i).length≤1000000)=True:=eq_true (by omega)
 have q2:((subs z i).length + (sb z i).length≤1000000)=True:=eq_true (by omega)
 have es:subs z (i + 1)=subs z i++sb z i:=by
  unfold subs
  rw [List.range_succ,List.flatMap_append,List.flatMap_singleton]
 rw [es,List.map_append]
 simp_arith [cB,mL,QX,lX,tG,CG (m:=9 - (1 + (i:Int))) (by omega) (by omega),e1,e,q1,q2]
theorem Vt {C:Ce} {b:Nat} {m f s:Int} {hd tl:Str} {i:Nat} {v7 v9 v11 fM:Option Vl} (f0:0≤f) (f1:f < 676) (s0:0 < s) (s1:s≤675) (hi:i < 40) (hh:hd.length≤3) (ht:tl.length≤3):
  ∃w11 w12,cA (mL b m hd tl f s v7 (some (.ow (.list (((List.range i).map (n2 hd tl f s fun k=>((k:Int) * k + f) % 4)).map .str)))) v9 (some (.im (.int (i:Int)))) v11 fM) C
   =some (.nx,mL b m hd tl f s v7 (some (.ow (.list (((List.range (i + 1)).map (n2 hd tl f s fun k=>((k:Int) * k + f) % 4)).map .str)))) v9 (some (.im (.int (i:Int)))) w11 w12,C):=by
 obtain ⟨v,hv⟩:∃v,v2 f s i=v:=⟨_,rfl⟩
 have hv':(f + s * (i:Int)) % 676=v:=hv
 have v0:0≤v:=by rw [←hv]; exact Int.emod_nonneg _ (by decide)
 have v1:v < 676:=by rw [←hv]; exact Int.emod_lt_of_pos _ (by decide)
 have a1:0≤v / 26:=Int.ediv_nonneg v0 (by decide)
 have a2:v / 26 < 26:=by omega
 have a3:0≤v % 26:=Int.emod_nonneg _ (by decide)
 have a4:v % 26 < 26:=Int.emod_lt_of_pos _ (by decide)
 have t1:aX (.str ⟨#[97 + (v / 26).toNat]⟩) (.str ⟨#[97 + (v % 26).toNat]⟩)=some (.im (.str (two v))):=Oh (by show 1 + 1≤1000000; omega)
 have lt:(two v).length=2:=by
  show ((#[97 + (v / 26).toNat]:Array Nat)++#[97 + (v % 26).toNat]).size=2
  rw [Array.size_append]
  rfl
 have t2:aX (.str hd) (.str (two v))=some (.im (.str (hd++two v))):=Oh (by rw [lt]; omega)
 have l3:=PyProof.Txt.length_slice_le tl none (some (((i:Int) * i + f) % 4))
 have l4:(hd++two v).length=hd.length + 2:=by
  show (hd.cps++(two v).cps).size=hd.cps.size + 2
  rw [Array.size_append,show (two v).cps.size=2 from lt]
 have t3:aX (.str (hd++two v)) (.str (Txt.slice tl none (some (((i:Int) * i + f) % 4))))=some (.im (.str (n2 hd tl f s (fun k=>((k:Int) * k + f) % 4) i))):=by
  unfold n2
  rw [hv]
  exact Oh (by rw [l4]; omega)
 have q1:(tl.length≤1000000)=True:=eq_true (by omega)
 have q2:(i < 1000000)=True:=eq_true (by omega)
 obtain ⟨acc,hacc⟩:∃acc,acc=((List.range i).map (n2 hd tl f s fun k=>((k:Int) * k + f) % 4)).map PyData.str:=⟨_,rfl⟩
 have la:(acc.length < 1000000)=True:=eq_true (by rw [hacc,List.length_map,List.length_map,List.length_range]; omega)
 have hn:((List.range (i + 1)).map (n2 hd tl f s fun k=>((k:Int) * k + f) % 4)).map PyData.str=acc++[.str (n2 hd tl f s (fun k=>((k:Int) * k + f) % 4) i)]:=by
  rw [List.range_succ,List.map_append,List.map_append,hacc]
  rfl
 rw [hn,←hacc]
 clear hn hacc
 generalize n2 hd tl f s (fun k=>((k:Int) * k + f) % 4) i=nm at t3 ⊢
 obtain ⟨cut,Vu⟩:∃c,Txt.slice tl none (some (((i:Int) * i + f) % 4))=c:=⟨_,rfl⟩
 rw [Vu] at t3
 have s1:fSet 11 (aC fD (au (aC aX (aA 5) (au (aC fP (aA 6) (aA 10))))) (au (fCst (.int 676)))) (mL b m hd tl f s v7 (some (.ow (.list acc))) v9 (some (.im (.int (i:Int)))) v11 fM) C=some (.nx,mL b m hd tl f s v7 (some (.ow (.list acc))) v9 (some (.im (.int (i:Int)))) (some (.im (.int v))) fM,C):=by
  simp_arith [mL,mul_eq (i:=s) (j:=(i:Int)) (.inl (by omega)),mod_eq (i:=f + s * (i:Int)) (j:=676) (by omega),hv']
 have s2:fSet 12 (aC aX (au (aC aZ (aA 2) (au (aC m7 (aA 11) (au (fCst (.int 26))))))) (au (aC aZ (aA 2) (au (aC fD (aA 11) (au (fCst (.int 26)))))))) (mL b m hd tl f s v7 (some (.ow (.list acc))) v9 (some (.im (.int (i:Int)))) (some (.im (.int v))) fM) C=some (.nx,mL b m hd tl f s v7 (some (.ow (.list acc))) v9 (some (.im (.int (i:Int)))) (some (.im (.int v))) (some (.im (.str (two v)))),C):=by
  simp_arith [mL,fdiv_eq (i:=v) (j:=26) (by omega) (by omega),mod_eq (i:=v) (j:=26) (by omega),aZ,letters _ a1 a2,letters _ a3 a4,t1]
 obtain ⟨q,hq⟩:∃q,((i:Int) * (i:Int) + f) % 4=q:=⟨_,rfl⟩
 rw [hq] at Vu
 have s3:=Vr (C:=C) (b:=b) (m:=m) (s:=s) (v:=v) (v7:=v7) (v9:=v9) (by omega) (by omega) hq ht Vu t2 t3 la
 refine ⟨some (.im (.int v)),some (.im (.str (two v))),?_⟩
 unfold cA
 simp only [fSeq,s1,s2,s3]
theorem H9 {fe:FE} (he:fe=aC aZ (aA 1) (au (fCal aN (aCons (fVar 2) (aCons (fCst (.int 26)) aNil))))) {C:Ce} {b L j:Nat} {v1 v3 v4 v5 v6 v7 v8 v9 v10 v11 fM:Option Vl} (h:Bl L C b (j + 4)):
  ∃(z:Str) (C':Ce),nA (au (fCst (.str (Str.ofString "")))) (au (fLC (tG (au (fCal aN (aCons (fVar 0) (aCons (fCst (.int 4)) aNil))))) .one gH fe [2,0])) [some (.ce b),v1,some (.im (.str abc)),v3,v4,v5,v6,v7,v8,v9,v10,v11,fM] C=some (.im (.str z),[some (.ce b),v1,some (.im (.str abc)),v3,v4,v5,v6,v7,v8,v9,v10,v11,fM],C')∧z.length≤3∧(∀c∈z.cps.toList,97≤c∧c≤122)∧Bl L C' b j:=by
 refine hide fun GG gg=>?_
 obtain ⟨k1,C1,e1,a1,b1,Dt⟩:=bZ (m:=4) h (by decide) (by decide)
 obtain ⟨cs,C2,e2,l2,hc,hB2⟩:=Rc he (j:=j) (size:=k1) Dt a1 (by omega)
 obtain ⟨z,e3,e4,e5⟩:=HY (cs:=cs) (by omega)
 have g5:(k1.toNat≤1000000)=True:=eq_true (by omega)
 refine gg ⟨z,C2,?_,by omega,by rw [e4]; exact hc,hB2⟩
 simp_arith [nA,tG,e1,CG (m:=k1) (by omega) (by omega),e2,l2,g5,pL,e3]
theorem Vv {C:Ce} {b L j:Nat} {m:Int} (R:FS) (h:Bl L C b (j + 10)):
  ∃(hd tl:Str) (f s:Int) (C':Ce),(fSeq (fSet 2 (fCst (.str (Str.ofString "abcdefghijklmnopqrstuvwxyz")))) (fSeq (fSet 3 (nA (au (fCst (.str (Str.ofString "")))) (au (fLC (tG (au (fCal aN (aCons (fVar 0) (aCons (fCst (.int 4)) aNil))))) .one gH gB [2,0])))) (fSeq (fSet 4 (nA (au (fCst (.str (Str.ofString "")))) (au (fLC (tG (au (fCal aN (aCons (fVar 0) (aCons (fCst (.int 4)) aNil))))) .one gH gA [2,0])))) (fSeq (fPar [5,6] (oCons (fCal aN (aCons (fVar 0) (aCons (fCst (.int 676)) aNil))) (oCons (aC aZ (au (fLst (aCons (fCst (.int 1)) (aCons (fCst (.int 3)) (aCons (fCst (.int 5)) (aCons (fCst (.int 7)) (aCons (fCst (.int 25)) (aCons (fCst (.int 675)) aNil)))))))) (au (fCal aN (aCons (fVar 0) (aCons (fCst (.int 6)) aNil))))) aNil))) R)))) [some (.ce b),some (.im (.int m)),none,none,none,none,none,none,none,none,none,none,none] C
   =R (mL b m hd tl f s none none none none none none) C'∧hd.length≤3∧tl.length≤3∧(∀c∈hd.cps.toList,97≤c∧c≤122)∧(∀c∈tl.cps.toList,97≤c∧c≤122)∧0≤f∧f < 676∧CV s∧Bl L C' b j:=by
 refine hide fun GG gg=>?_
 obtain ⟨hd,C1,e1,l1,c1,Dt⟩:=H9 (fe:=gB) rfl (j:=j + 6) (v1:=some (.im (.int m))) (v3:=none) (v4:=none) (v5:=none) (v6:=none) (v7:=none) (v8:=none) (v9:=none) (v10:=none) (v11:=none) (fM:=none) h
 obtain ⟨tl,C2,e2,l2,c2,hB2⟩:=H9 (fe:=gA) rfl (j:=j + 2) (v1:=some (.im (.int m))) (v3:=some (.im (.str hd))) (v4:=none) (v5:=none) (v6:=none) (v7:=none) (v8:=none) (v9:=none) (v10:=none) (v11:=none) (fM:=none) Dt
 obtain ⟨f,C3,e3,f0,f1,hB3⟩:=bZ (m:=676) hB2 (by decide) (by decide)
 obtain ⟨k,C4,e4,k0,k1,Rf⟩:=bZ (m:=6) hB3 (by decide) (by decide)
 obtain ⟨s,e5,hs⟩:=step_at k0 k1
 refine gg ⟨hd,tl,f,s,C4,?_,l1,l2,c1,c2,f0,f1,hs,Rf⟩
 simp_arith [↓e1,↓e2,e3,e4,e5]
section
variable {C:Ce} {b:Nat} {m f s:Int} {hd tl:Str}
theorem ZV {v10 v11 fM:Option Vl} (z:Str) (hz:z.length=8) (v9:Option Vl):∃w9,iU (gNm 9) cB (iT 1 8) (mL b m hd tl f s (some (.im (.str z))) (some (.ow (.list []))) v9 v10 v11 fM) C=some (.nx,mL b m hd tl f s (some (.im (.str z))) (some (.ow (.list ((subs z 8).map .str)))) w9 v10 v11 fM,C):=by
 obtain ⟨env',C',e,w9,he,hC⟩:=fG (g:=gNm 9) (body:=cB) (its:=iT 1 8) (env:=mL b m hd tl f s (some (.im (.str z))) (some (.ow (.list []))) v9 v10 v11 fM) (C:=C)
  (fun i env C1=>∃w9,env=mL b m hd tl f s (some (.im (.str z))) (some (.ow (.list ((subs z i).map .str)))) w9 v10 v11 fM∧C1=C) ⟨v9,rfl,rfl⟩ (fun i d env C1 hd hI=>by
   obtain ⟨w9,rfl,rfl⟩:=hI
   obtain ⟨rfl,hi⟩:=oh hd
   exact ⟨_,.nx,_,C1,rfl,Vs hz hi,.inl rfl,_,rfl,rfl⟩)
 rw [qJ] at he
 subst he
 subst hC
 exact ⟨w9,e⟩
theorem ZW {v7 v9 v11 fM:Option Vl} {n:Nat} (hn:n≤30) (f0:0≤f) (f1:f < 676) (hs:CV s) (hh:hd.length≤3) (ht:tl.length≤3) (v10:Option Vl):
  ∃w10 w11 w12,iU (gNm 10) cA (iT 0 n) (mL b m hd tl f s v7 (some (.ow (.list []))) v9 v10 v11 fM) C=some (.nx,mL b m hd tl f s v7 (some (.ow (.list (((List.range n).map (n2 hd tl f s fun k=>((k:Int) * k + f) % 4)).map .str)))) v9 w10 w11 w12,C):=by
 obtain ⟨env',C',e,w10,w11,w12,he,hC⟩:=fG (g:=gNm 10) (body:=cA) (its:=iT 0 n) (env:=mL b m hd tl f s v7 (some (.ow (.list []))) v9 v10 v11 fM) (C:=C)
  (fun i env C1=>∃w10 w11 w12,env=mL b m hd tl f s v7 (some (.ow (.list (((List.range i).map (n2 hd tl f s fun k=>((k:Int) * k + f) % 4)).map .str)))) v9 w10 w11 w12∧C1=C) ⟨v10,v11,fM,rfl,rfl⟩ (fun i d env C1 hd' hI=>by
   obtain ⟨w10,w11,w12,rfl,rfl⟩:=hI
   obtain ⟨rfl,hi⟩:=oh hd'
   rw [Int.zero_add]
   obtain ⟨u11,u12,e⟩:=Vt (C:=C1) (b:=b) (m:=m) (v7:=v7) (v9:=v9) (v11:=w11) (fM:=w12) (i:=i) f0 f1 hs.1.1 hs.1.2 (by omega) hh ht
   exact ⟨_,.nx,_,C1,rfl,e,.inl rfl,_,u11,u12,rfl,rfl⟩)
 rw [qJ] at he
 subst he
 subst hC
 exact ⟨w10,w11,w12,e⟩
end
theorem Gj {zs:List Str} {m:Int} (m0:0≤m) (m1:m≤zs.length):tH (zs.map PyData.str) none (some m)=(zs.take m.toNat).map .str:=by
 obtain ⟨k,rfl⟩:∃k:Nat,m=(k:Int):=⟨m.toNat,by omega⟩
 unfold tH
 rw [List.length_map,HT.Gw,show HT.dW zs.length 0 none=0 from rfl,List.drop_zero,Nat.sub_zero,List.map_take,Int.toNat_natCast,Nat.min_eq_left (by omega)]
theorem Oi {C:Ce} {b L j:Nat} {m:Int} (h:Bl L C b (j + 12)) (m0:0≤m) (m1:m≤30):
  ∃(zs:List Str) (C':Ce),eF [.ce b,.im (.int m)] C=some (.ow (.list (zs.map .str)),C')∧Names zs∧zs.length=m.toNat∧Bl L C' b j:=by
 refine hide fun GG gg=>?_
 obtain ⟨R,hR⟩:∃R:FS,R=fSeq (lq (fTst (aC jF (au (fCal aN (aCons (fVar 0) (aCons (fCst (.int 4)) aNil)))) (au (fCst (.int 0))))) (fSeq (fPar [7,8] (oCons (nA (au (fCst (.str (Str.ofString "")))) (au (fLC (tG (au (fCst (.int 8)))) .one gH dU [2,5]))) (oCons (fLst aNil) aNil))) (fSeq (iz (Nu (au (fCst (.int 1))) (au (fCst (.int 9)))) (gNm 9) cB) (fRet (oV (aA 8) rK (n6 (aA 1)))))) fNext) (fSeq (lq (ir (fTst (aC zf (aA 1) (au (fCst (.int 27))))) (fTst (aC jF (au (fCal aN (aCons (fVar 0) (aCons (fCst (.int 3)) aNil)))) (au (fCst (.int 0)))))) (fRet (fLC (tG (aA 1)) .one gH dR [2,5,6])) fNext) (fSeq (fSet 8 (fLst aNil)) (fSeq (iz (tG (aA 1)) (gNm 10) cA) (fRetV 8)))):=⟨_,rfl⟩
 obtain ⟨hd,tl,f,s,C1,e1,l1,l2,c1,c2,f0,f1,hs,Dt⟩:=Vv (m:=m) (j:=j + 2) R h
 rw [hR] at e1
 obtain ⟨k,C2,e2,a2,b2,hB2⟩:=bZ (m:=4) Dt (by decide) (by decide)
 by_cases hk:k=0
 ·subst hk
  obtain ⟨z,e3,e4,e5⟩:=HY (cs:=gK f) (by simp [gK])
  have hz:z.length=8:=by rw [e5]; simp [gK]
  have st:=J1 (C:=C2) f
  obtain ⟨w9,e6⟩:=ZV (C:=C2) (b:=b) (m:=m) (f:=f) (s:=s) (hd:=hd) (tl:=tl) (v10:=none) (v11:=none) (fM:=none) z hz none
  have ct:=Gj (zs:=subs z 8) m0 (by rw [CZ]; omega)
  have nm:=Gd e4
  have q:((gK f).length≤1000000)=True:=eq_true (by simp [gK])
  refine gg ⟨(subs z 8).take m.toNat,C2,cF [some (.ce b),some (.im (.int m)),none,none,none,none,none,none,none,none,none,none,none] rfl rfl ?_ rfl (h.eq hB2),⟨nm.1.sublist (List.take_sublist _ _),fun x hx=>nm.2 x (List.mem_of_mem_take hx)⟩,by rw [List.length_take,CZ]; omega,hB2.mono (by omega)⟩
  unfold eE
  rw [e1]
  have i8:Int.toNat 8=8:=rfl
  have i9:Int.toNat (9 - 1)=8:=rfl
  have rg2:(-(2 ^ 62)≤(1:Int)∧(1:Int) < 2 ^ 62∧-(2 ^ 62)≤(9:Int)∧(9:Int) < 2 ^ 62)=True:=eq_true (by decide)
  simp only [mL] at e6
  simp_arith [mL,e2,nA,tG,CG (m:=(8:Int)) (by decide) (by decide),i8,st,q,pL,e3,Nu,rg2,i9,iz,e6,oV,rK,n6,Cj,ct]
 ·have hk':(k==0)=false:=beq_eq_false_iff_ne.mpr hk
  have fin:∀C3,Bl L C3 b j→ir (fTst (aC zf (aA 1) (au (fCst (.int 27))))) (fTst (aC jF (au (fCal aN (aCons (fVar 0) (aCons (fCst (.int 3)) aNil)))) (au (fCst (.int 0))))) (mL b m hd tl f s none none none none none none) C2=some (false,C3)→GG:=fun C3 hB3 ht=>by
   obtain ⟨w10,w11,w12,e7⟩:=ZW (C:=C3) (b:=b) (m:=m) (v7:=none) (v9:=none) (v11:=none) (fM:=none) (n:=m.toNat) (by omega) f0 f1 hs l1 l2 none
   refine gg ⟨_,C3,cF [some (.ce b),some (.im (.int m)),none,none,none,none,none,none,none,none,none,none,none] rfl rfl ?_ rfl (h.eq hB3),NQ (f:=f) (q:=fun k=>((k:Int) * k + f) % 4) (n:=m.toNat) hs (by omega) l1 l2 c1 c2,by rw [List.length_map,List.length_range],hB3⟩
   unfold eE
   rw [e1]
   simp only [mL] at e7 ht
   simp_arith [mL,e2,hk',↓ht,iz,tG,CG (m:=m) (by omega) (by omega),e7]
  by_cases ZX:m < 27
  ·obtain ⟨k6,C3,e3,a3,b3,hB3⟩:=bZ (m:=3) hB2 (by decide) (by decide)
   by_cases hk6:k6=0
   ·subst hk6
    have lc:=Oe (C:=C3) (f:=f) (s:=s) hs.1.1 hs.1.2 m.toNat
    have q:(m.toNat≤1000000)=True:=eq_true (by omega)
    refine gg ⟨_,C3,cF [some (.ce b),some (.im (.int m)),none,none,none,none,none,none,none,none,none,none,none] rfl rfl ?_ rfl (h.eq hB3),NP (f:=f) (n:=m.toNat) hs (by omega),by rw [List.length_map,List.length_range],hB3⟩
    unfold eE
    rw [e1]
    simp_arith [mL,e2,hk',ZX,e3,tG,CG (m:=m) (by omega) (by omega),lc,List.length_range,q]
   ·have ZZ:(k6==0)=false:=beq_eq_false_iff_ne.mpr hk6
    exact fin C3 hB3 (by simp_arith [mL,ZX,e3,ZZ])
  ·exact fin C2 hB2.dec (by simp_arith [mL,ZX])
theorem J2 {C:Ce} {b L j:Nat} {zs:List Str} (h:Bl L C b (j + 16)) (h8:zs.length≤8) (hz:Names zs):
  ∃(ps:List (Str×Str)) (C':Ce),eG [.ce b,.im (.list (zs.map .str))] C=some (.ow (.dict (cD (bG ps))),C')∧bJ zs ps∧ps.length=zs.length∧Bl L C' b j:=by
 refine hide fun GG gg=>?_
 obtain ⟨env',C',e,ps,v3,v4,he,hl,hP,hB⟩:=fG (g:=gTp 2 (gsCons (gNm 3) (gsCons (gNm 4) gsNil))) (body:=cU) (its:=vA (zs.map .str)) (env:=[some (.ce b),some (.im (.list (zs.map .str))),some (.ow (.dict [])),none,none]) (C:=C)
  (fun i env C2=>∃(ps:List (Str×Str)) (v3 v4:Option Vl),env=[some (.ce b),some (.im (.list (zs.map .str))),some (.ow (.dict (cD (bG ps)))),v3,v4]∧ps.length=i∧bJ zs ps∧Bl L C2 b (j + 2 * (8 - i)))
  ⟨[],none,none,rfl,rfl,(fun i x e=>by simp at e),h⟩ (fun i d env C2 hd hI=>by
   obtain ⟨ps,v3,v4,rfl,hl,hP,hB⟩:=hI
   obtain ⟨x,hx,rfl⟩:=CN hd
   obtain ⟨z,hz1,rfl⟩:=Vj hx
   refine hide fun GG gg=>?_
   have hi:i < zs.length:=(List.getElem?_eq_some_iff.mp hz1).1
   rw [HN j 2 (by omega:i < 8)] at hB
   obtain ⟨k1,C3,e1,a1,b1,Dt⟩:=bZ (m:=4) hB (by decide) (by decide)
   have ct:=Gj (zs:=zs) (m:=(i:Int)) (by omega) (by omega)
   rw [Int.toNat_natCast] at ct
   have ad:aX (.list [.str (Str.ofString "")]) (.list ((zs.take i).map .str))=some (.ow (.list (PyData.str (Str.ofString "")::(zs.take i).map .str))):=add_l (xs:=[.str (Str.ofString "")]) (by rw [List.length_map,List.length_take]; show 1 + _≤_; omega)
   have g:((cD (bG ps)).length < 1000000)=True:=eq_true (by unfold cD bG; rw [List.length_map,List.length_map]; omega)
   have fin:∀(t:Int) (C4:Ce),0≤t→t≤i→Bl L C4 b (j + 2 * (8 - (i + 1)))→(∀y:Str,iD (PyData.str (Str.ofString "")::(zs.take i).map .str) t=some (.str y)→putD (cD (bG ps)) (.str z) (.str y)=some (cD (bG (ps++[(z,y)])))→
     cU [some (.ce b),some (.im (.list (zs.map .str))),some (.ow (.dict (cD (bG ps)))),some (.im (.int (i:Int))),some (.im (.str z))] C2=some (.nx,[some (.ce b),some (.im (.list (zs.map .str))),some (.ow (.dict (cD (bG (ps++[(z,y)]))))),some (.im (.int (i:Int))),some (.im (.str z))],C4))→GG:=fun t C4 t0 t1 hB2 run=>by
    obtain ⟨y,my,hy1,iy⟩:=vz (zs:=Str.ofString ""::zs.take i) (k:=t) t0 (by rw [List.length_cons,List.length_take]; omega)
    have hy2:y=Str.ofString ""∨∃j,j < ps.length∧zs[j]?=some y:=by
     rcases List.mem_cons.mp my with rfl | my
     ·exact .inl rfl
     ·obtain ⟨jj,hj,e⟩:=List.getElem_of_mem my
      rw [List.length_take] at hj
      refine .inr ⟨jj,by omega,?_⟩
      rw [List.getElem_take] at e
      rw [←e]
      exact List.getElem?_eq_getElem (by omega)
    have pu:putD (cD (bG ps)) (.str z) (.str y)=some (cD (bG (ps++[(z,y)]))):=by
     rw [Cv (l:=bG ps) (z:=z) (d:=.str y)]
     ·unfold bG
      rw [List.map_append]
      rfl
     ·unfold bG
      rw [List.map_map]
      intro hm
      obtain ⟨q,hq,e⟩:=List.mem_map.mp hm
      obtain ⟨jj,hj,rfl⟩:=List.getElem_of_mem hq
      have g1:=(hP jj ps[jj] (List.getElem?_eq_getElem hj)).1
      have e:ps[jj].1=z:=e
      rw [e] at g1
      obtain ⟨x1,y1⟩:=List.getElem?_eq_some_iff.mp g1
      obtain ⟨x2,y2⟩:=List.getElem?_eq_some_iff.mp hz1
      exact List.pairwise_iff_getElem.mp hz.1 jj i x1 x2 (by omega) (y1.trans y2.symm)
    rw [List.map_cons] at iy
    exact gg ⟨_,.nx,_,C4,rfl,run y iy pu,.inl rfl,ps++[(z,y)],_,_,rfl,by simp [hl],hP.snoc (by rw [hl]; exact hz1) hy2,hB2⟩
   by_cases hk:0 < k1
   ·obtain ⟨t,C4,e3,t0,t1,hB2⟩:=bZ (m:=(i:Int) + 1) Dt (by omega) (by omega)
    exact fin t C4 t0 (by omega) hB2 fun y iy pu=>by simp_arith [cU,oV,rK,n6,Cj,ct,ad,e1,hk,e3,iy,uV,sG,pu,g]
   ·exact fin 0 C3 (by omega) (by omega) Dt.dec fun y iy pu=>by simp_arith [cU,oV,rK,n6,Cj,ct,ad,e1,hk,iy,uV,sG,pu,g])
 rw [yo,List.length_map] at hl hB
 subst he
 refine gg ⟨ps,C',cF [some (.ce b),some (.im (.list (zs.map .str))),none,none,none] rfl rfl ?_ rfl (h.eq hB),hP,hl,hB.mono (Nat.le_add_right _ _)⟩
 simp_arith [jJ,Fe,iz,Yo,e]
theorem Oj {C:Ce} {ps:List (Str×Str)}:∀{z:Str} {os:List Str},Over (cQ ps) z os→∀(n:Nat) (acc:List Str),os.length < n→acc.length + os.length < 1000→
  ∃z',cP j8 j9 n [some (.im (.dict (cD (bG ps)))),some (.im (.str z)),some (.ow (.list (acc.map .str)))] C=some (.nx,[some (.im (.dict (cD (bG ps)))),some (.im (.str z')),some (.ow (.list ((acc++os).map .str)))],C):=by
 have hin:∀z,jY (.str z) (.dict (cD (bG ps)))=some (.im (.bool (cQ ps z).isSome)):=fun z=>by
  show ((lV (cD (bG ps)) (.str z)).map (·.isSome)).map (fun b=>Vl.im (.bool b))=_
  rw [qO]
  cases cQ ps z <;> rfl
 intro z os ho
 induction ho with
 | @stop z h=>
  intro n acc hn ha
  cases n with
  | zero=>exact absurd hn (Nat.not_lt_zero _)
  | succ n=>
   refine ⟨z,?_⟩
   unfold cP
   simp_arith [hin,h,Option.isSome_none,List.append_nil]
 | @step z y r h _ ih=>
  intro n acc hn ha
  cases n with
  | zero=>exact absurd hn (Nat.not_lt_zero _)
  | succ n=>
   rw [List.length_cons] at hn ha
   obtain ⟨z',e⟩:=ih n (acc++[z]) (by omega) (by rw [List.length_append]; show acc.length + 1 + _ < _; omega)
   refine ⟨z',?_⟩
   have g:(acc.length < 1000000)=True:=eq_true (by omega)
   have i:aZ (.dict (cD (bG ps))) (.str z)=some (.im (.str y)):=by
    unfold aZ Qt
    simp only [qO,h,Option.map_some]
   simp only [List.map_append,List.map_cons,List.map_nil,List.append_assoc,List.cons_append,List.nil_append] at e ⊢
   unfold cP
   simp_arith [hin,h,Option.isSome_some,g,oM,lX,i,e]
theorem Ol {C:Ce} {zs:List Str} {ps:List (Str×Str)} (hN:Names zs) (hP:bJ zs ps) (h8:ps.length≤8) (z:Str):
  eN [.im (.dict (cD (bG ps))),.im (.str z)] C=some (.ow (.list ((up ps z).map .str)),C):=by
 have hul:=Nm ps z
 obtain ⟨z',e⟩:=Oj (C:=C) (HJ hN hP z) By [] (by show _ < 100000; omega) (by show 0 + _ < 1000; omega)
 rw [List.map_nil,List.nil_append] at e
 refine cF [some (.im (.dict (cD (bG ps)))),some (.im (.str z)),none] rfl rfl ?_ rfl rfl
 simp_arith [jK,QB,e]
theorem J3 {C:Ce} {b L j:Nat} {m:Int} (h:Bl L C b (j + 101)) (h0:0≤m) (h1:m≤50):
  ∃(ns:List Int) (C':Ce),kj [.ce b,.im (.int m)] C=some (.ow (.list (ns.map .int)),C')∧ns.length=m.toNat∧(∀x∈ns,0≤x∧x≤2000)∧ns.Pairwise (· < ·)∧Bl L C' b j:=by
 refine hide fun GG gg=>?_
 obtain ⟨k0,C0,e0,a0,b0,hB0⟩:=bZ (m:=3) (k:=j + 100) h (by decide) (by decide)
 obtain ⟨env',C',e,ns,nx,v4,he,hl,hr,hp,hx0,hx1,hB⟩:=fG (g:=gNm 4) (body:=lJ) (its:=iT 0 m.toNat) (env:=[some (.ce b),some (.im (.int m)),some (.ow (.list [])),some (.im (.int k0)),none]) (C:=C0)
  (fun i env C1=>∃(ns:List Int) (nx:Int) (v4:Option Vl),env=[some (.ce b),some (.im (.int m)),some (.ow (.list (ns.map .int))),some (.im (.int nx)),v4]∧ns.length=i∧(∀x∈ns,0≤x∧x < nx)∧ns.Pairwise (· < ·)∧0≤nx∧nx≤2 + 3 * i∧Bl L C1 b (j + 2 * (50 - i)))
  ⟨[],k0,none,rfl,rfl,(fun _ m=>nomatch m),List.Pairwise.nil,a0,by omega,hB0⟩ (fun i d env C1 hd hI=>by
   obtain ⟨ns,nx,v4,rfl,hl,hr,hp,hx0,hx1,hB⟩:=hI
   obtain ⟨rfl,hi⟩:=oh hd
   refine hide fun GG gg=>?_
   rw [HN j 2 (by omega:i < 50)] at hB
   obtain ⟨k1,C2,e1,a1,b1,Dt⟩:=bZ (m:=2) hB (by decide) (by decide)
   obtain ⟨k2,C3,e2,a2,b2,hB2⟩:=bZ (m:=3) Dt (by decide) (by decide)
   obtain ⟨y,hy,y0,y2⟩:∃y,k1 * k2=y∧0≤y∧y≤2:=by
    have hk:k1=0∨k1=1:=by omega
    rcases hk with rfl | rfl
    ·exact ⟨0,by rw [Int.zero_mul],by decide,by decide⟩
    ·exact ⟨k2,by rw [Int.one_mul],a2,by omega⟩
   have lm:(ns.length < 1000000)=True:=eq_true (by omega)
   refine gg ⟨_,.nx,[some (.ce b),some (.im (.int m)),some (.ow (.list ((ns++[nx]).map .int))),some (.im (.int (nx + 1 + y))),some (.im (.int (0 + i)))],C3,rfl,?_,.inl rfl,ns++[nx],nx + 1 + y,_,rfl,by simp [hl],fun x hx=>?_,?_,by omega,by omega,hB2⟩
   ·simp_arith [lJ,e1,e2,mul_eq (i:=k1) (j:=k2) (.inl (by omega)),hy,oM,lX,lm,List.map_append]
   ·rcases List.mem_append.mp hx with hx | hx
    ·have:=hr x hx; omega
    ·rw [List.mem_singleton.mp hx]; omega
   ·rw [List.pairwise_append]
    refine ⟨hp,by simp,fun x hx z hz=>?_⟩
    rw [List.mem_singleton.mp hz]
    exact (hr x hx).2)
 rw [qJ] at hl hx1 hB
 subst he
 refine gg ⟨ns,C',cF [some (.ce b),some (.im (.int m)),none,none,none] rfl rfl ?_ rfl (h.eq hB),hl,fun x hx=>?_,hp,hB.mono (Nat.le_add_right _ _)⟩
 ·simp_arith [rT,e0,iz,tG,CG (m:=m) (by omega) (by omega),e]
 ·have:=hr x hx
  omega
theorem Dh {C:Ce}:∀(l q:List (Str×Str)),((q++l).map (·.1)).Nodup→(q++l).length≤8→sO (.many 2) gH gZ g8 [] (l.map jb) (cD (bG q)) C=some (cD (bG (q++l)),C)
 | [],q,_,_=>by rw [List.append_nil]; rfl
 | x::l,q,nd,h8=>by
  have ih:=Dh (C:=C) l (q++[x]) (by rw [List.append_assoc]; exact nd) (by rw [List.append_assoc]; exact h8)
  have hx:x.1∉(bG q).map (·.1):=by
   unfold bG
   rw [List.map_map]
   show x.1∉q.map (·.1)
   rw [List.map_append,List.nodup_append] at nd
   exact fun hm=>nd.2.2 _ hm _ List.mem_cons_self rfl
  have hl:(cD (bG q)).length < LIM:=by
   unfold cD bG
   rw [List.length_append] at h8
   rw [List.length_map,List.length_map]
   show _ < 1000000
   omega
  rw [List.map_cons]
  unfold sO
  rw [show U5 (.many 2) (jb x)=some [.str x.1,.str x.2] from rfl]
  show (if (cD (bG q)).length < LIM then sO (.many 2) gH gZ g8 [] (l.map jb) (oN cN (.inr x.1) (.str x.1) (.str x.2) (cD (bG q))) C else none)=_
  rw [if_pos hl,Cu hx]
  have e:bG q++[(x.1,.str x.2)]=bG (q++[x]):=by unfold bG; rw [List.map_append]; rfl
  rw [e,ih,List.append_assoc]
  rfl
theorem Rg {C:Ce} {hs:Option Vl} {q ps:List (Str×Str)} (hl:∀z,cQ q z=cQ ps z):∀{z:Str} {os:List Str},Over (cQ ps) z os→∀(n:Nat) (acc:List Str),os.length < n→acc.length + os.length < 1000→
  ∃z',cP mq mC n [hs,some (.im (.str z)),some (.ow (.dict (cD (bG q)))),some (.ow (.list (acc.map .str)))] C=some (.nx,[hs,some (.im (.str z')),some (.ow (.dict (cD (bG q)))),some (.ow (.list ((acc++os).map .str)))],C):=by
 have hin:∀z,jY (.str z) (.dict (cD (bG q)))=some (.im (.bool (cQ ps z).isSome)):=fun z=>by
  show ((lV (cD (bG q)) (.str z)).map (·.isSome)).map (fun b=>Vl.im (.bool b))=_
  rw [qO,hl]
  cases cQ ps z <;> rfl
 intro z os ho
 induction ho with
 | @stop z h=>
  intro n acc hn ha
  cases n with
  | zero=>exact absurd hn (Nat.not_lt_zero _)
  | succ n=>
   refine ⟨z,?_⟩
   unfold cP
   simp_arith [hin,h,Option.isSome_none,List.append_nil]
 | @step z y r h _ ih=>
  intro n acc hn ha
  cases n with
  | zero=>exact absurd hn (Nat.not_lt_zero _)
  | succ n=>
   rw [List.length_cons] at hn ha
   obtain ⟨z',e⟩:=ih n (acc++[z]) (by omega) (by rw [List.length_append]; show acc.length + 1 + _ < _; omega)
   refine ⟨z',?_⟩
   have g:(acc.length < 1000000)=True:=eq_true (by omega)
   have i:aZ (.dict (cD (bG q))) (.str z)=some (.im (.str y)):=by
    unfold aZ Qt
    simp only [qO,hl,h,Option.map_some]
   simp only [List.map_append,List.map_cons,List.map_nil,List.append_assoc,List.cons_append,List.nil_append] at e ⊢
   unfold cP
   simp_arith [hin,h,Option.isSome_some,g,oM,lX,i,e]
theorem wL {C:Ce} {zs:List Str} {ps:List (Str×Str)} {ht:cM} (hN:Names zs) (hP:bJ zs ps) (hG:dh zs ps ht) (z:Str):
  gb [.im (bQ ht),.im (.str z)] C=some (.ow (.list ((up ps z).map .str)),C):=by
 have nd:=ju hN hP
 have nd':(ht.ps.map (·.1)).Nodup:=(hG.parts.map (·.1)).nodup_iff.mpr nd
 have hL:ht.ps.length≤8:=by rw [hG.parts.length_eq]; exact hG.p8
 have t:=Dh (C:=C) ht.ps [] nd' hL
 rw [show cD (bG [])=[] from rfl,List.nil_append] at t
 have hul:=Nm ps z
 have h8:=hG.p8
 obtain ⟨z',e⟩:=Rg (C:=C) (hs:=some (.im (bQ ht))) (FJ hG.parts nd) (HJ hN hP z) By [] (by show _ < 100000; omega) (by show 0 + _ < 1000; omega)
 rw [List.map_nil,List.nil_append] at e
 refine cF [some (.im (bQ ht)),some (.im (.str z)),none,none] rfl rfl ?_ rfl rfl
 simp_arith [lD,Xj,t,CJ,QB,e]
theorem t7 {C:Ce} {z a1 b1 p:Str} {n:Int}:dO [.im (.tuple [.str z,.int n,.str a1,.str b1]),.im (.str p)] C=some (.im (.bool (decide (p=a1∨p=b1))),C):=by
 have ct:tH [PyData.str z,.int n,.str a1,.str b1] (some 2) (some 4)=[.str a1,.str b1]:=rfl
 have i1:jY (.str p) (.tuple [.str a1,.str b1])=some (.im (.bool (decide (p=a1∨p=b1)))):=by
  have:inB (.str p) (.tuple [.str a1,.str b1])=some (inD (.str p) ([a1,b1].map .str)):=if_pos (c:=(d7 (.str p)&&[PyData.str a1,.str b1].all d7)=true) (e:=none) rfl
  unfold jY
  rw [this,qK]
  simp
 refine cF [some (.im (.tuple [.str z,.int n,.str a1,.str b1])),some (.im (.str p))] rfl rfl ?_ rfl rfl
 simp_arith [rP,oV,n6,Cj,ct,i1]
noncomputable def vO (os:List Str) (n day:Int) (a1 b1:Str) (r:cR):Bool:=decide (r.2.2.2.1∈os)&&((decide (r.2.2.2.2.1≤day)&&decide (day≤r.2.2.2.2.2.1))&&(decide (n≤r.2.2.2.2.2.2)&&(!decide (r.2.1=a1∨r.2.1=b1)&&!decide (r.2.2.1=a1∨r.2.2.1=b1))))
noncomputable def J4 (r:cR):PyData:=.tuple [.int r.1,.str r.2.1,.str r.2.2.1]
noncomputable abbrev cH (z a1 b1:Str) (n:Int):PyData:=.tuple [.str z,.int n,.str a1,.str b1]
theorem Rh {C:Ce} {zs:List Str} {ps:List (Str×Str)} {ht:cM} (hN:Names zs) (hP:bJ zs ps) (hG:dh zs ps ht) (z a1 b1:Str) (n day:Int):
  iJ [.im (bQ ht),.im (cH z a1 b1 n),.im (.int day)] C=some (.ow (.list ((ht.leaves.filter (vO (up ps z) n day a1 b1)).map J4)),C):=by
 have p:=wL (C:=C) hN hP hG z
 have h16:=hG.Kd
 obtain ⟨l,lE⟩:∃l,l=ht.leaves.filter (vO (up ps z) n day a1 b1):=⟨_,rfl⟩
 have ll:l.length≤16:=by rw [lE]; exact Nat.le_trans (List.length_filter_le _ _) h16
 have t:fV (.many 7) lF lG [some (.im (.list ((up ps z).map .str))),some (.im (.int day)),some (.im (cH z a1 b1 n))] (ht.leaves.map bN) C=some (l.map J4,C):=by
  rw [lE]
  refine dJ (T:=.many 7) (ft:=lF) (fe:=lG) (fs:=[some (.im (.list ((up ps z).map .str))),some (.im (.int day)),some (.im (cH z a1 b1 n))]) (C:=C) bN (vO (up ps z) n day a1 b1) J4 (l:=ht.leaves) fun r _=>?_
  refine ⟨[.int r.1,.str r.2.1,.str r.2.2.1,.str r.2.2.2.1,.int r.2.2.2.2.1,.int r.2.2.2.2.2.1,.int r.2.2.2.2.2.2],rfl,?_,fun _=>⟨.im (J4 r),[some (.im (.int r.1)),some (.im (.str r.2.1)),some (.im (.str r.2.2.1)),some (.im (.str r.2.2.2.1)),some (.im (.int r.2.2.2.2.1)),some (.im (.int r.2.2.2.2.2.1)),some (.im (.int r.2.2.2.2.2.2)),some (.im (.list ((up ps z).map .str))),some (.im (.int day)),some (.im (cH z a1 b1 n))],by simp_arith [ji,List.cons_append,List.nil_append]; rfl,rfl⟩⟩
  have c:=Sh rC rC (aA 4) (aA 8) (aA 5) (env:=[some (.im (.int r.1)),some (.im (.str r.2.1)),some (.im (.str r.2.2.1)),some (.im (.str r.2.2.2.1)),some (.im (.int r.2.2.2.2.1)),some (.im (.int r.2.2.2.2.2.1)),some (.im (.int r.2.2.2.2.2.2)),some (.im (.list ((up ps z).map .str))),some (.im (.int day)),some (.im (cH z a1 b1 n))]) (C:=C) (a:=decide (r.2.2.2.2.1≤day)) (b:=decide (day≤r.2.2.2.2.2.1)) rfl rfl rfl rfl rfl
  have s1:=t7 (C:=C) (z:=z) (a1:=a1) (b1:=b1) (n:=n) (p:=r.2.1)
  have s2:=t7 (C:=C) (z:=z) (a1:=a1) (b1:=b1) (n:=n) (p:=r.2.2.1)
  simp_arith [ji,List.cons_append,List.nil_append,c,s1,s2]
  unfold vO
  cases decide (r.2.2.2.1∈up ps z) <;> cases decide (r.2.2.2.2.1≤day) <;> cases decide (day≤r.2.2.2.2.2.1) <;> cases decide (n≤r.2.2.2.2.2.2) <;> cases decide (r.2.1=a1∨r.2.1=b1) <;> rfl
 have q:(l.length≤1000000)=True:=eq_true (by omega)
 have nl:d8 (l.map J4)=true:=by
  clear t lE ll q
  induction l with
  | nil=>rfl
  | cons r l ih=>show (true&&d8 (l.map J4))=true; rw [ih]; rfl
 refine cF [some (.im (bQ ht)),some (.im (cH z a1 b1 n)),some (.im (.int day)),none] rfl rfl ?_ rfl rfl
 simp_arith [rQ,p,t,q,nl]
 rw [lE]
theorem nO (p a1 b1:Str):jY (.str p) (.tuple [.str a1,.str b1])=some (.im (.bool (decide (p=a1∨p=b1)))):=by
 have:inB (.str p) (.tuple [.str a1,.str b1])=some (inD (.str p) ([a1,b1].map .str)):=if_pos (c:=(d7 (.str p)&&[PyData.str a1,.str b1].all d7)=true) (e:=none) rfl
 unfold jY
 rw [this,qK]
 simp
theorem vP (o:Str) (zs:List Str):jm (.str o) (.list (zs.map .str))=some (.im (.bool (!decide (o∈zs)))):=by
 have:inB (.str o) (.list (zs.map .str))=some (inD (.str o) (zs.map .str)):=if_pos (by rw [rM]; rfl)
 unfold jm
 rw [this,qK,Option.map_some]
theorem Ri {C:Ce} {zs:List Str} {ps:List (Str×Str)} (hN:Names zs) (hP:bJ zs ps) (h8:ps.length≤8) (z a1 b1:Str) (n day:Int) (r:cR):
  qR [.im (.dict (cD (bG ps))),.im (cH z a1 b1 n),.im (.int day),.im (bN r)] C=some (.im (.bool (vO (up ps z) n day a1 b1 r)),C):=by
 have p:=Ol (C:=C) hN hP h8 z
 have ct:tH [PyData.str z,.int n,.str a1,.str b1] (some 2) none=[.str a1,.str b1]:=rfl
 have c:=Sh rC rC (au (aC aZ (aA 3) (au (fCst (.int 4))))) (aA 2) (au (aC aZ (aA 3) (au (fCst (.int 5))))) (env:=[some (.im (.dict (cD (bG ps)))),some (.im (cH z a1 b1 n)),some (.im (.int day)),some (.im (bN r))]) (e1:=[some (.im (.dict (cD (bG ps)))),some (.im (cH z a1 b1 n)),some (.im (.int day)),some (.im (bN r))]) (e2:=[some (.im (.dict (cD (bG ps)))),some (.im (cH z a1 b1 n)),some (.im (.int day)),some (.im (bN r))]) (e3:=[some (.im (.dict (cD (bG ps)))),some (.im (cH z a1 b1 n)),some (.im (.int day)),some (.im (bN r))]) (C:=C) (C1:=C) (C2:=C) (x:=.int r.2.2.2.2.1) (y:=.int day) (z:=.int r.2.2.2.2.2.1) (a:=decide (r.2.2.2.2.1≤day)) (b:=decide (day≤r.2.2.2.2.2.1)) (by simp_arith [bN]) rfl rfl (by simp_arith [bN]) rfl
 refine cF [some (.im (.dict (cD (bG ps)))),some (.im (cH z a1 b1 n)),some (.im (.int day)),some (.im (bN r))] rfl rfl ?_ rfl rfl
 simp only [bN] at c ⊢
 unfold vO
 cases hA:decide (r.2.1=a1∨r.2.1=b1) with
 | true=>
  simp_arith [oE,oV,n6,rK,Cj,ct,nO,hA]
 | false=>
  cases hB:decide (r.2.2.1=a1∨r.2.2.1=b1) with
  | true=>
   simp_arith [oE,oV,n6,rK,Cj,ct,nO,hA,hB]
  | false=>
   cases hC:decide (r.2.2.2.1∈up ps z) with
   | false=>simp_arith [oE,oV,n6,rK,Cj,ct,nO,hA,hB,p,vP,hC]
   | true=>
    simp_arith [oE,oV,n6,rK,Cj,ct,nO,hA,hB,p,vP,hC,ni,c]
    cases decide (r.2.2.2.2.1≤day) <;> cases decide (day≤r.2.2.2.2.2.1) <;> rfl
theorem Di:∀ps:List (Str×Str),Nz (cD (bG ps))=some (ps.map fun p=>(.inr p.1,.inr p.2))
 | []=>rfl
 | p::ps=>by
  show ((some (Sum.inr p.1):Option Key).bind fun k=>(some (Sum.inr p.2):Option Key).bind fun v=>(Nz (cD (bG ps))).map fun t=>(k,v)::t)=_
  rw [Di ps]
  rfl
theorem Dj (ps:List (Str×Str)) (h0:0 < ps.length) (h8:ps.length≤8):∃ps':List (Str×Str),ps'.Perm ps∧FW (cD (bG ps))=some (ps'.map jb):=by
 have em:(cD (bG ps)).map (fun p=>PyData.tuple [p.1,p.2])=ps.map jb:=by
  unfold cD bG
  rw [List.map_map,List.map_map]
  rfl
 obtain ⟨ps',p1,p2⟩:=zJ (JK (ds:=ps.map jb) fun d hd=>by obtain ⟨p,_,rfl⟩:=List.mem_map.mp hd; rfl)
 refine ⟨ps',p1,?_⟩
 unfold FW
 rw [Di,em]
 cases ps with
 | nil=>cases h0
 | cons p r=>
  rw [Option.bind_some,List.map_cons,List.head?_cons,Option.bind_some,if_pos,p2]
  refine ⟨by rw [List.length_cons,List.length_map]; rw [List.length_cons] at h8; omega,fun q hq=>?_⟩
  rw [←List.map_cons (f:=fun p:Str×Str=>((Sum.inr p.1,Sum.inr p.2):Key×Key))] at hq
  obtain ⟨x,_,rfl⟩:=List.mem_map.mp hq
  exact ⟨rfl,rfl⟩
theorem Dk {C:Ce} {ps:List (Str×Str)} (h0:0 < ps.length) (h8:ps.length≤8) (lv:List cR):∃ps':List (Str×Str),ps'.Perm ps∧gP [.im (.dict (cD (bG ps))),.im (.list (lv.map bN))] C=some (.im (bQ ⟨ps',[],lv,[]⟩),C):=by
 obtain ⟨ps',p1,e⟩:=Dj ps h0 h8
 refine ⟨ps',p1,cF [some (.im (.dict (cD (bG ps)))),some (.im (.list (lv.map bN)))] rfl rfl ?_ rfl rfl⟩
 simp_arith [nH,zN,NB,e,qG]
 rfl
theorem same_none {C:Ce} (n:Nat):dF (n + 1) [.im .none,.im .none] C=some (.im (.bool true),C):=
 Nv (k:=2) (n:=2) (en:=[some (.im .none),some (.im .none)]) (e1:=[some (.im .none),some (.im .none)]) rfl rfl rfl rfl rfl
theorem same_int {C:Ce} (n:Nat) (x:Int):dF (n + 1) [.im (.int x),.im (.int x)] C=some (.im (.bool true),C):=by
 refine Nv (k:=2) (n:=2) (en:=[some (.im (.int x)),some (.im (.int x))]) (e1:=[some (.im (.int x)),some (.im (.int x))]) rfl rfl ?_ rfl rfl
 simp_arith [t6,pI,BW,Fp,Hf,isNone,ni,Hj]
theorem same_ints {C:Ce} (n:Nat) (xs:List Int) (hl:xs.length≤1000):dF (n + 2) [.im (.list (xs.map .int)),.im (.list (xs.map .int))] C=some (.im (.bool true),C):=by
 have t:fV (.many 2) gH (vI (dF (n + 1))) [] (qI (xs.map .int) (xs.map .int)) C=some (List.replicate xs.length (.bool true),C):=by
  clear hl
  induction xs with
  | nil=>rfl
  | cons x xs ih=>
   rw [List.map_cons,qI]
   unfold fV
   rw [List.length_cons,List.replicate_succ]
   simp_arith [U5,gH,ji,List.append_nil,same_int n x,ih]
 have b:=FQ xs.length
 have h1:(xs.length≤1000000)=True:=eq_true (by omega)
 refine Nv (k:=2) (n:=2) (en:=[some (.im (.list (xs.map .int))),some (.im (.list (xs.map .int)))]) (e1:=[some (.im (.list (xs.map .int))),some (.im (.list (xs.map .int)))]) rfl rfl ?_ rfl rfl
 simp_arith [t6,pI,BW,Fp,ni,Yn,t,b.1,b.2,List.length_replicate,h1]
noncomputable def stL (st:List (Str×Int)):List (Str×PyData):=st.map fun x=>(x.1,.int x.2)
noncomputable abbrev wD (w:Int×Str×Str):PyData:=.tuple [.int w.1,.str w.2.1,.str w.2.2]
theorem z6 (st:List (Str×Int)) (z:Str):lV (cD (stL st)) (.str z)=some ((mK st z).map .int):=by
 rw [xZ]
 unfold stL mK
 rw [List.find?_map,Option.map_map,Option.map_map]
 rfl
theorem Ia (st:List (Str×Int)) (z:Str):((mK st z).map PyData.int).isSome=decide (z∈st.map (·.1)):=by
 by_cases h:z∈st.map (·.1)
 ·cases e:mK st z with
  | none=>exact absurd h (di.mp e)
  | some d=>rw [decide_eq_true h]; rfl
 ·rw [di.mpr h,decide_eq_false h]; rfl
theorem Sq (st:List (Str×Int)) (z:Str):jY (.str z) (.dict (cD (stL st)))=some (.im (.bool (decide (z∈st.map (·.1))))):=by
 show ((lV (cD (stL st)) (.str z)).map (·.isSome)).map (fun b=>Vl.im (.bool b))=_
 rw [z6,Option.map_some,Ia]
 rfl
theorem vQ (st:List (Str×Int)) (z:Str):jm (.str z) (.dict (cD (stL st)))=some (.im (.bool (!decide (z∈st.map (·.1))))):=by
 show ((lV (cD (stL st)) (.str z)).map (·.isSome)).map (fun b=>Vl.im (.bool (!b)))=_
 rw [z6,Option.map_some,Ia]
 rfl
theorem Ss {st:List (Str×Int)} {z:Str} {d:Int} (h:mK st z=some d):aZ (.dict (cD (stL st))) (.str z)=some (.im (.int d)):=by
 unfold aZ Qt
 simp only [z6,h,Option.map_some]
theorem Ib {C:Ce} {v0 v1 nw:Option Vl} {k:Int}:∀(new:List Str) (st:List (Str×Int)) (v5:Option Vl),(st.map (·.1)++new).Nodup→st.length + new.length≤1000→
  ∃Xw,iU (gNm 5) o6 (new.map .str) [v0,v1,some (.ow (.dict (cD (stL st)))),nw,some (.im (.int k)),v5] C=some (.nx,[v0,v1,some (.ow (.dict (cD (stL (st++new.map fun g=>(g,k)))))),nw,some (.im (.int k)),Xw],C)
 | [],st,v5,_,_=>⟨v5,by rw [List.map_nil,List.map_nil,List.append_nil]; rfl⟩
 | g::new,st,v5,nd,hl=>by
  rw [List.length_cons] at hl
  obtain ⟨Xw,e⟩:=Ib (C:=C) (v0:=v0) (v1:=v1) (nw:=nw) (k:=k) new (st++[(g,k)]) (some (.im (.str g))) (by rw [List.map_append,List.append_assoc]; exact nd) (by rw [List.length_append]; show st.length + 1 + _≤_; omega)
  refine ⟨Xw,?_⟩
  have hn:g∉(stL st).map (·.1):=by
   unfold stL
   rw [List.map_map]
   exact fun hm=>(List.nodup_append.mp nd).2.2 _ hm _ List.mem_cons_self rfl
  have pu:putD (cD (stL st)) (.str g) (.int k)=some (cD (stL (st++[(g,k)]))):=by
   rw [Cv hn]
   unfold stL
   rw [List.map_append]
   rfl
  have q:((cD (stL st)).length < 1000000)=True:=eq_true (by unfold cD stL; rw [List.length_map,List.length_map]; omega)
  rw [List.append_assoc] at e
  rw [List.map_cons]
  unfold iU
  simp_arith [uV,sG,pu,q]
  exact e
theorem vR {C:Ce} {ws:List (Int×Str×Str)} {s:Str} (hl:ws.length≤60):∀(n:Nat) (st:List (Str×Int)) (new:List Str) (k:Nat) (nv:Vl) (v5:Option Vl),(nv=.ow (.list (new.map .str))∨nv=.im (.list (new.map .str)))→NZ ws s st new k→(new=[]→0 < n)→(new≠[]→ws.length + 2 - st.length < n)→
  ∃(st':List (Str×Int)) (e':En),cP o9 pA n [some (.im (.list (ws.map wD))),some (.im (.str s)),some (.ow (.dict (cD (stL st)))),some nv,some (.im (.int k)),v5] C=some (.nx,e',C)∧e'[2]?=some (some (.ow (.dict (cD (stL st')))))∧Ra ws s st'
 | 0,st,new,k,nv,v5,hv,B,h0,h1=>by
  by_cases h:new=[]
  ·exact absurd (h0 h) (Nat.lt_irrefl _)
  ·exact absurd (h1 h) (Nat.not_lt_zero _)
 | n + 1,st,new,k,nv,v5,hv,B,h0,h1=>by
  by_cases hnew:new=[]
  ·subst hnew
   refine ⟨st,[some (.im (.list (ws.map wD))),some (.im (.str s)),some (.ow (.dict (cD (stL st)))),some nv,some (.im (.int k)),v5],?_,rfl,B.done⟩
   unfold cP
   rcases hv with rfl | rfl <;> simp_arith [] <;> rfl
  have h1:=h1 hnew
  have ht:(new.map PyData.str).isEmpty=false:=by cases new with | nil=>exact absurd rfl hnew | cons _ _=>rfl
  have c:=dJ (T:=.many 3) (ft:=o7) (fe:=o8) (fs:=[some (.im (.list (new.map .str))),some (.im (.dict (cD (stL st))))]) (C:=C) wD (fun w=>decide (w.2.2∈new)&&!decide (w.2.1∈st.map (·.1))) (fun w=>.str w.2.1) (l:=ws) fun w _=>by
   refine ⟨[.int w.1,.str w.2.1,.str w.2.2],rfl,?_,fun _=>⟨.im (.str w.2.1),_,by simp_arith [ji,List.cons_append,List.nil_append]; rfl,rfl⟩⟩
   simp_arith [ji,List.cons_append,List.nil_append,vQ]
   cases decide (w.2.2∈new) <;> rfl
  obtain ⟨gs,Z0⟩:∃gs,gs=(ws.filter fun w=>decide (w.2.2∈new)&&!decide (w.2.1∈st.map (·.1))).map (·.2.1):=⟨_,rfl⟩
  have c2:(ws.filter fun w=>decide (w.2.2∈new)&&!decide (w.2.1∈st.map (·.1))).map (fun w=>PyData.str w.2.1)=gs.map .str:=by rw [Z0,List.map_map]; rfl
  rw [c2] at c
  have gl:gs.length≤60:=by rw [Z0,List.length_map]; exact Nat.le_trans (List.length_filter_le _ _) hl
  have sS:qH (gs.map .str)=some ((sJ strLt (dedup gs)).map .str):=by
   unfold qH
   rw [if_pos (by rw [List.length_map]; omega),vm]
  obtain ⟨ns,nsE⟩:∃ns,ns=sJ strLt (dedup gs):=⟨_,rfl⟩
  rw [←nsE] at sS
  have hm:∀g,g∈ns ↔ ∃w∈ws,w.2.2∈new∧w.2.1∉st.map (·.1)∧w.2.1=g:=fun g=>by
   rw [nsE,(iY _).mem_iff,Ju,Z0,List.mem_map]
   constructor
   ·rintro ⟨w,h1,h2⟩
    obtain ⟨h1,h3⟩:=List.mem_filter.mp h1
    rw [Bool.and_eq_true,decide_eq_true_eq,Bool.not_eq_true',decide_eq_false_iff_not] at h3
    exact ⟨w,h1,h3.1,h3.2,h2⟩
   ·rintro ⟨w,h1,h2,h3,h4⟩
    exact ⟨w,List.mem_filter.mpr ⟨h1,by rw [decide_eq_true h2,decide_eq_false h3]; rfl⟩,h4⟩
  have hn:ns.Nodup:=by rw [nsE]; exact (iY _).nodup_iff.mpr (Az _)
  have B2:=B.step hn hm
  have f1:=B.few
  have f2:=B2.few
  have nd:=B2.nd
  rw [List.map_append,List.map_map,show ((fun x:Str×Int=>x.1) ∘ fun g=>(g,(k:Int) + 1))=id from rfl,List.map_id] at nd
  rw [List.length_append,List.length_map] at f2
  obtain ⟨Xw,e1⟩:=Ib (C:=C) (v0:=some (.im (.list (ws.map wD)))) (v1:=some (.im (.str s))) (nw:=some (.im (.list (ns.map .str)))) (k:=(k:Int) + 1) ns st v5 nd (by omega)
  obtain ⟨st',e',e2,e3,e4⟩:=vR (C:=C) hl n (st++ns.map fun g=>(g,(k:Int) + 1)) ns (k + 1) (.im (.list (ns.map .str))) Xw (.inr rfl) B2 (fun z=>by omega) (fun z=>by
   rw [List.length_append,List.length_map]
   have:=List.length_pos_iff.mpr z
   omega)
  refine ⟨st',e',?_,e3,e4⟩
  unfold cP
  rcases hv with rfl | rfl <;> simp_arith [ht,Qz,Xo,↓c,sS,iz,e1] <;> exact e2
theorem Om {C:Ce} {ws:List (Int×Str×Str)} {s:Str} (hl:ws.length≤60):∃st:List (Str×Int),je [.im (.list (ws.map wD)),.im (.str s)] C=some (.ow (.dict (cD (stL st))),C)∧Ra ws s st:=by
 obtain ⟨st,e',e1,e2,e3⟩:=vR (C:=C) hl By [(s,0)] [s] 0 (.ow (.list [.str s])) none (.inl rfl) (NZ.init ws s) (fun z=>nomatch z) (fun _=>by show _ + 2 - 1 < 100000; omega)
 rw [show (((0:Nat):Nat):Int)=0 from rfl] at e1
 refine ⟨st,cF [some (.im (.list (ws.map wD))),some (.im (.str s)),none,none,none,none] rfl rfl ?_ rfl rfl,e3⟩
 simp_arith [pO,HQ,QB,cN]
 rw [show [(PyData.str s,PyData.int 0)]=cD (stL [(s,0)]) from rfl]
 simp only [e1]
 simp_arith [e2]
noncomputable def qU (st:List (Str×Int)) (d:Int) (p:Str) (w:Int×Str×Str):Bool:=decide (w.2.1=p)&&(decide (w.2.2∈st.map (·.1))&&(mK st w.2.2).any fun e=>decide (e < d))
theorem rY {st:List (Str×Int)} {d:Int} {p:Str} {w:Int×Str×Str}:qU st d p w=true ↔ w.2.1=p∧∃e,mK st w.2.2=some e∧e < d:=by
 unfold qU
 rw [Bool.and_eq_true,Bool.and_eq_true,decide_eq_true_eq,decide_eq_true_eq]
 refine and_congr_right fun _=>⟨fun h=>?_,fun ⟨e,h1,h2⟩=>⟨?_,by rw [h1]; exact decide_eq_true h2⟩⟩
 ·cases e:mK st w.2.2 with
  | none=>exact absurd h.1 (di.mp e)
  | some x=>
   have:=h.2
   rw [e] at this
   exact ⟨x,rfl,of_decide_eq_true this⟩
 ·apply Classical.byContradiction
  intro n
  rw [di.mpr n] at h1
  cases h1
theorem Ie (bt:Nat→Nat→Bool) (val:Nat→Int) (h1:∀i j,bt i j=true→val i≤val j) (h2:∀i j,bt i j=false→val j≤val i):∀k,PySem.argBest bt k≤k∧∀i,i≤k→val (PySem.argBest bt k)≤val i
 | 0=>⟨Nat.le_refl _,fun i hi=>by rw [Nat.le_zero.mp hi]; exact Int.le_refl _⟩
 | k + 1=>by
  obtain ⟨a,b⟩:=Ie bt val h1 h2 k
  unfold PySem.argBest
  cases e:bt (k + 1) (PySem.argBest bt k) with
  | true=>
   rw [if_pos rfl]
   refine ⟨Nat.le_refl _,fun i hi=>?_⟩
   rcases Nat.lt_or_eq_of_le hi with hi | rfl
   ·exact Int.le_trans (h1 _ _ e) (b i (Nat.le_of_lt_succ hi))
   ·exact Int.le_refl _
  | false=>
   rw [if_neg Bool.false_ne_true]
   refine ⟨Nat.le_succ_of_le a,fun i hi=>?_⟩
   rcases Nat.lt_or_eq_of_le hi with hi | rfl
   ·exact b i (Nat.le_of_lt_succ hi)
   ·exact h2 _ _ e
theorem J5 (cs:List (Int×Str)) (h:cs≠[]):∃c∈cs,zO [.list (cs.map fun c=>.tuple [.int c.1,.str c.2])]=some (.im (.tuple [.int c.1,.str c.2]))∧∀c'∈cs,c.1≤c'.1:=by
 obtain ⟨c0,hc0⟩:∃c0,cs.head?=some c0:=by
  cases cs with
  | nil=>exact absurd rfl h
  | cons c _=>exact ⟨c,rfl⟩
 have ek:(cs.map fun c=>PyData.tuple [.int c.1,.str c.2]).map xU=cs.map fun c=>[Sum.inl c.1,Sum.inr c.2]:=by
  rw [List.map_map]
  rfl
 have hd:(cs.map fun c=>([Sum.inl c.1,Sum.inr c.2]:List Key)).headD []=[Sum.inl c0.1,Sum.inr c0.2]:=by
  cases cs with
  | nil=>cases hc0
  | cons c _=>cases hc0; rfl
 have gt:∀i,(cs.map fun c=>([Sum.inl c.1,Sum.inr c.2]:List Key)).getD i [Sum.inl c0.1,Sum.inr c0.2]=[Sum.inl (cs.getD i c0).1,Sum.inr (cs.getD i c0).2]:=fun i=>by
  rw [List.getD_eq_getElem?_getD,List.getD_eq_getElem?_getD,List.getElem?_map]
  cases cs[i]? <;> rfl
 obtain ⟨b1,b2⟩:=Ie (fun i j=>gn ((cs.map fun c=>([Sum.inl c.1,Sum.inr c.2]:List Key)).getD i [Sum.inl c0.1,Sum.inr c0.2]) ((cs.map fun c=>([Sum.inl c.1,Sum.inr c.2]:List Key)).getD j [Sum.inl c0.1,Sum.inr c0.2])) (fun i=>(cs.getD i c0).1) (fun i j e=>by
   simp only [gt,gn] at e
   split at e
   ·rename_i z
    have:=Sum.inl.inj z
    omega
   ·exact Int.le_of_lt (of_decide_eq_true e)) (fun i j e=>by
   simp only [gt,gn] at e
   split at e
   ·rename_i z
    have:=Sum.inl.inj z
    omega
   ·have:=of_decide_eq_false e
    omega) (cs.length - 1)
 have pos:0 < cs.length:=List.length_pos_iff.mpr h
 obtain ⟨k,hk⟩:∃k,k=CT (cs.map fun c=>([Sum.inl c.1,Sum.inr c.2]:List Key)):=⟨_,rfl⟩
 have hk':=hk
 unfold CT at hk'
 rw [hd,List.length_map] at hk'
 rw [←hk'] at b1 b2
 have lt:k < cs.length:=by omega
 refine ⟨cs[k],List.getElem_mem lt,?_,fun c' hc'=>?_⟩
 ·show Ga (cs.map fun c=>.tuple [.int c.1,.str c.2])=_
  unfold Ga
  rw [List.head?_map,hc0,ek,←hk,List.getElem?_map,List.getElem?_eq_getElem lt]
  refine if_pos fun d hd=>?_
  obtain ⟨c,_,rfl⟩:=List.mem_map.mp hd
  rfl
 ·obtain ⟨i,hi,rfl⟩:=List.getElem_of_mem hc'
  have:=b2 i (by omega)
  rw [List.getD_eq_getElem?_getD,List.getD_eq_getElem?_getD,List.getElem?_eq_getElem lt,List.getElem?_eq_getElem hi] at this
  exact this
theorem J6 {C:Ce} {ws:List (Int×Str×Str)} {st:List (Str×Int)} {p:Str} {d:Int} (hl:ws.length≤60) (hp:mK st p=some d) (hne:∃w∈ws,qU st d p w=true):
  ∃(n:Int) (t:Str),gf [.im (.list (ws.map wD)),.im (.dict (cD (stL st))),.im (.str p)] C=some (.im (.tuple [.int n,.str t]),C)∧(n,p,t)∈ws∧(∃e,mK st t=some e∧e < d)∧∀n' q' e,(n',p,q')∈ws→mK st q'=some e→e < d→n≤n':=by
 have c:=dJ (T:=.many 3) (ft:=mD) (fe:=mF) (fs:=[some (.im (.str p)),some (.im (.dict (cD (stL st))))]) (C:=C) wD (qU st d p) (fun w=>.tuple [.int w.1,.str w.2.2]) (l:=ws) fun w _=>by
  refine ⟨[.int w.1,.str w.2.1,.str w.2.2],rfl,?_,fun _=>⟨.im (.tuple [.int w.1,.str w.2.2]),_,by simp_arith [ji,List.cons_append,List.nil_append]; rfl,rfl⟩⟩
  have ip:=Ss hp
  unfold qU
  cases h1:decide (w.2.1=p) with
  | false=>simp_arith [ji,List.cons_append,List.nil_append,h1]
  | true=>
   cases e:mK st w.2.2 with
   | none=>
    have h2:=decide_eq_false (di.mp e)
    simp_arith [ji,List.cons_append,List.nil_append,h1,Sq,h2]
   | some x=>
    have h2:decide (w.2.2∈st.map (·.1))=true:=by rw [←Ia,e]; rfl
    have iw:=Ss e
    simp_arith [ji,List.cons_append,List.nil_append,h1,Sq,h2,ip,iw,Option.any_some]
 obtain ⟨cs,Xx⟩:∃cs:List (Int×Str),cs=(ws.filter (qU st d p)).map fun w=>(w.1,w.2.2):=⟨_,rfl⟩
 have c2:(ws.filter (qU st d p)).map (fun w=>PyData.tuple [.int w.1,.str w.2.2])=cs.map fun c=>.tuple [.int c.1,.str c.2]:=by rw [Xx,List.map_map]; rfl
 rw [c2] at c
 have cl:(cs.length≤1000000)=True:=eq_true (by rw [Xx,List.length_map]; have:=List.length_filter_le (qU st d p) ws; omega)
 have mem:∀n t,(n,t)∈cs ↔ (n,p,t)∈ws∧∃e,mK st t=some e∧e < d:=fun n t=>by
  rw [Xx,List.mem_map]
  constructor
  ·rintro ⟨w,hw,e⟩
   cases e
   obtain ⟨h1,h2⟩:=List.mem_filter.mp hw
   obtain ⟨h3,h4⟩:=rY.mp h2
   rw [←h3]
   exact ⟨h1,h4⟩
  ·rintro ⟨h1,h2⟩
   exact ⟨(n,p,t),List.mem_filter.mpr ⟨h1,rY.mpr ⟨rfl,h2⟩⟩,rfl⟩
 have ne:cs≠[]:=fun z=>by
  obtain ⟨w,hw,h⟩:=hne
  have:(w.1,w.2.2)∈cs:=by rw [Xx]; exact List.mem_map.mpr ⟨w,List.mem_filter.mpr ⟨hw,h⟩,rfl⟩
  rw [z] at this
  cases this
 have nl:d8 (cs.map fun c=>PyData.tuple [.int c.1,.str c.2])=true:=by
  clear c c2 Xx cl mem ne
  induction cs with
  | nil=>rfl
  | cons r l ih=>show (true&&d8 (l.map _))=true; rw [ih]; rfl
 obtain ⟨⟨n,t⟩,m,e,hmin⟩:=J5 cs ne
 obtain ⟨m1,m2⟩:=(mem n t).mp m
 refine ⟨n,t,cF [some (.im (.list (ws.map wD))),some (.im (.dict (cD (stL st)))),some (.im (.str p))] rfl rfl ?_ rfl rfl,m1,m2,fun n' q' e' h1 h2 h3=>hmin (n',q') ((mem n' q').mpr ⟨h1,e',h2,h3⟩)⟩
 simp_arith [lH,c,cl,nl,e]
theorem Oo {C:Ce} {ws:List (Int×Str×Str)} {s:Str} {st:List (Str×Int)} (hl:ws.length≤60) (hU:∀w∈ws,∀w'∈ws,w.1=w'.1→w=w') (B:Ra ws s st):∀(m:Nat) (p:Str) (d:Int),mK st p=some d→d≤m→∀(n:Nat) (acc:List Int) (v5:Option Vl),m < n→acc.length + m≤100000→
  ∃(r:List Int) (e':En),cP nD nF n [some (.im (.list (ws.map wD))),some (.im (.str p)),some (.im (.str s)),some (.ow (.dict (cD (stL st)))),some (.ow (.list (acc.map .int))),v5] C=some (.nx,e',C)∧e'[4]?=some (some (.ow (.list ((acc++r).map .int))))∧jc ws p s r:=by
 intro m
 induction m with
 | zero=>
  intro p d hp hd n acc v5 hn ha
  have:p=s:=by
   obtain ⟨r,h1,h2⟩:=B.sound p d hp
   cases h1 with
   | nil=>rfl
   | cons _ _=>rw [List.length_cons] at h2; omega
  subst this
  cases n with
  | zero=>exact absurd hn (Nat.lt_irrefl _)
  | succ n=>
   refine ⟨[],[some (.im (.list (ws.map wD))),some (.im (.str p)),some (.im (.str p)),some (.ow (.dict (cD (stL st)))),some (.ow (.list (acc.map .int))),v5],?_,by rw [List.append_nil]; rfl,jc.self ws p⟩
   unfold cP
   simp_arith [ne_strs]
 | succ m ih=>
  intro p d hp hd n acc v5 hn ha
  cases n with
  | zero=>exact absurd hn (Nat.not_lt_zero _)
  | succ n=>
   by_cases hs:p=s
   ·subst hs
    refine ⟨[],[some (.im (.list (ws.map wD))),some (.im (.str p)),some (.im (.str p)),some (.ow (.dict (cD (stL st)))),some (.ow (.list (acc.map .int))),v5],?_,by rw [List.append_nil]; rfl,jc.self ws p⟩
    unfold cP
    simp_arith [ne_strs]
   ·have hne:∃w∈ws,qU st d p w=true:=by
     obtain ⟨r,h1,h2⟩:=B.sound p d hp
     cases h1 with
     | nil=>exact absurd rfl hs
     | cons hw hr=>
      rename_i n q r
      obtain ⟨e,h3,h4⟩:=B.whole q r hr
      rw [List.length_cons] at h2
      exact ⟨_,hw,rY.mpr ⟨rfl,e,h3,by omega⟩⟩
    obtain ⟨n1,t,e1,m1,⟨e,m2,m3⟩,hmin⟩:=J6 (C:=C) hl hp hne
    obtain ⟨r,e',e2,e3,e4⟩:=ih t e m2 (by omega) n (acc++[n1]) (some (.im (.int n1))) (by omega) (by rw [List.length_append]; show acc.length + 1 + _≤_; omega)
    have R:=jc.go hU B hp m1 ⟨e,m2,m3⟩ hmin e4
    rw [List.append_assoc] at e3
    refine ⟨n1::r,e',?_,e3,R⟩
    have g:(acc.length < 1000000)=True:=eq_true (by omega)
    have q:(p=s)=False:=eq_false hs
    rw [List.map_append] at e2
    unfold cP
    have rp:∀e e',rst (.im (.tuple [.int n1,.str t])) e e'=e:=fun _ _=>rfl
    simp_arith [ne_strs,q,e1,oM,lX,g,rp]
    exact e2
noncomputable def vU:Option (List Int)→Vl
 | none=>.im .none
 | some r=>.ow (.list (r.map .int))
noncomputable def yw (ws:List (Int×Str×Str)) (h s:Str):Option (List Int)→Prop
 | none=>∀r,¬Ke ws h r s
 | some r=>jc ws h s r
theorem Oq {C:Ce} {ws:List (Int×Str×Str)} {h s:Str} (hl:ws.length≤60) (hU:∀w∈ws,∀w'∈ws,w.1=w'.1→w=w'):∃o,gO [.im (.list (ws.map wD)),.im (.str h),.im (.str s)] C=some (vU o,C)∧yw ws h s o:=by
 obtain ⟨st,e1,B⟩:=Om (C:=C) (s:=s) hl
 cases e:mK st h with
 | none=>
  have hn:=di.mp e
  refine ⟨none,cF [some (.im (.list (ws.map wD))),some (.im (.str h)),some (.im (.str s)),none,none,none] rfl rfl ?_ rfl rfl,fun r p=>hn ((B.iff h).mpr ⟨r,p⟩)⟩
  have q:=decide_eq_false hn
  simp_arith [jx,e1,vQ,q]
  rfl
 | some d=>
  obtain ⟨r0,h1,h2⟩:=B.sound h d e
  have q:decide (h∈st.map (·.1))=true:=by rw [←Ia,e]; rfl
  obtain ⟨r,e',e2,e3,e4⟩:=Oo (C:=C) hl hU B d.toNat h d e (by omega) By [] none (by have:=B.few h d e; show _ < 100000; omega) (by have:=B.few h d e; show 0 + _≤_; omega)
  refine ⟨some r,cF [some (.im (.list (ws.map wD))),some (.im (.str h)),some (.im (.str s)),none,none,none] rfl rfl ?_ rfl rfl,e4⟩
  rw [List.map_nil] at e2
  rw [List.nil_append] at e3
  simp_arith [jx,e1,vQ,q,QB,e2,e3]
  rfl
noncomputable def Xy (r:cR):Int×Str×Str:=(r.1,r.2.1,r.2.2.1)
theorem Ig:∀{l:List cR},(l.map (·.1)).Pairwise (· < ·)→∀r∈l,∀r'∈l,r.1=r'.1→r=r'
 | [],_,_,h,_,_,_=>nomatch h
 | a::l,hp,r,h,r',h',e=>by
  rw [List.map_cons,List.pairwise_cons] at hp
  rcases List.mem_cons.mp h with h1 | h1 <;> rcases List.mem_cons.mp h' with h2 | h2
  ·rw [h1,h2]
  ·have:=hp.1 _ (List.mem_map.mpr ⟨r',h2,rfl⟩)
   rw [h1] at e
   omega
  ·have:=hp.1 _ (List.mem_map.mpr ⟨r,h1,rfl⟩)
   rw [h2] at e
   omega
  ·exact Ig hp.2 r h1 r' h2 e
theorem yw.unique {ws:List (Int×Str×Str)} {h s:Str}:∀{o o':Option (List Int)},yw ws h s o→yw ws h s o'→o=o'
 | none,none,_,_=>rfl
 | none,some r,a,b=>absurd b.1 (a r)
 | some r,none,a,b=>absurd a.1 (b r)
 | some r,some r',a,b=>congrArg some (jc.unique a b)
noncomputable def nP (ht:cM) (os:List Str) (n day:Int) (a1 b1:Str):List (Int×Str×Str):=(ht.leaves.filter (vO os n day a1 b1)).map Xy
theorem Ot {zs:List Str} {ps:List (Str×Str)} {ht:cM} (hG:dh zs ps ht) (os:List Str) (n day:Int) (a1 b1:Str):(nP ht os n day a1 b1).length≤60:=by
 unfold nP
 rw [List.length_map]
 have:=List.length_filter_le (vO os n day a1 b1) ht.leaves
 have:=hG.Kd
 omega
theorem Dl {zs:List Str} {ps:List (Str×Str)} {ht:cM} (hG:dh zs ps ht) (os:List Str) (n day:Int) (a1 b1:Str):∀w∈nP ht os n day a1 b1,∀w'∈nP ht os n day a1 b1,w.1=w'.1→w=w':=fun w h w' h' e=>by
 obtain ⟨r,m,rfl⟩:=List.mem_map.mp h
 obtain ⟨r',m',rfl⟩:=List.mem_map.mp h'
 rw [Ig hG.ZM r (List.mem_filter.mp m).1 r' (List.mem_filter.mp m').1 e]
theorem Vw {C:Ce} {zs:List Str} {ps:List (Str×Str)} {ht:cM} (hN:Names zs) (hP:bJ zs ps) (hG:dh zs ps ht) (z a1 b1:Str) (n day:Int):
  iJ [.im (bQ ht),.im (cH z a1 b1 n),.im (.int day)] C=some (.ow (.list ((nP ht (up ps z) n day a1 b1).map wD)),C):=by
 rw [Rh hN hP hG]
 unfold nP
 rw [List.map_map]
 rfl
theorem Dm {C:Ce} {zs:List Str} {ps:List (Str×Str)} {ht:cM} (hN:Names zs) (hP:bJ zs ps) (hG:dh zs ps ht) (z a1 b1:Str) (n day:Int) (h s:Str):
  ∃o,j7 [.im (bQ ht),.im (cH z a1 b1 n),.im (.str h),.im (.str s),.im (.int day)] C=some (vU o,C)∧(((h=a1∨h=b1)∨(s=a1∨s=b1))→o=none)∧(¬((h=a1∨h=b1)∨(s=a1∨s=b1))→yw (nP ht (up ps z) n day a1 b1) h s o):=by
 have s1:=t7 (C:=C) (z:=z) (a1:=a1) (b1:=b1) (n:=n) (p:=h)
 have s2:=t7 (C:=C) (z:=z) (a1:=a1) (b1:=b1) (n:=n) (p:=s)
 have w:=Vw (C:=C) hN hP hG z a1 b1 n day
 obtain ⟨o,e,ho⟩:=Oq (C:=C) (h:=h) (s:=s) (Ot hG (up ps z) n day a1 b1) (Dl hG (up ps z) n day a1 b1)
 have ok:xQ C.length (vU o)=true:=by cases o <;> rfl
 by_cases h1:h=a1∨h=b1
 ·refine ⟨none,cF [some (.im (bQ ht)),some (.im (cH z a1 b1 n)),some (.im (.str h)),some (.im (.str s)),some (.im (.int day))] rfl rfl ?_ rfl rfl,fun _=>rfl,fun z=>absurd (.inl h1) z⟩
  rw [decide_eq_true h1] at s1
  simp_arith [nG,s1]
  rfl
 ·rw [decide_eq_false h1] at s1
  by_cases h2:s=a1∨s=b1
  ·refine ⟨none,cF [some (.im (bQ ht)),some (.im (cH z a1 b1 n)),some (.im (.str h)),some (.im (.str s)),some (.im (.int day))] rfl rfl ?_ rfl rfl,fun _=>rfl,fun z=>absurd (.inr h2) z⟩
   rw [decide_eq_true h2] at s2
   simp_arith [nG,s1,s2]
   rfl
  ·rw [decide_eq_false h2] at s2
   refine ⟨o,cF [some (.im (bQ ht)),some (.im (cH z a1 b1 n)),some (.im (.str h)),some (.im (.str s)),some (.im (.int day))] rfl rfl ?_ ok rfl,fun z=>absurd z fun z=>z.elim h1 h2,fun _=>ho⟩
   simp_arith [nG,s1,s2,w,e]
theorem vV {C:Ce} (n:Nat) (o:Option (List Int)) (hl:∀r,o=some r→r.length≤1000):dF (n + 2) [still (vU o),still (vU o)] C=some (.im (.bool true),C):=by
 cases o with
 | none=>exact same_none (n + 1)
 | some r=>exact same_ints n r (hl r rfl)
theorem z7 {α:Type} {f:α→PyData} (h:∀a,wA (f a)=true):∀l:List α,d8 (l.map f)=true
 | []=>rfl
 | a::l=>by
  show (wA (f a)&&d8 (l.map f))=true
  rw [h a,z7 h l]
  rfl
theorem Rj (h:cM) (e f:En):rst (.im (bQ h)) e f=e:=by
 refine if_pos ?_
 show (d8 (h.ps.map jb)&&(d8 (h.mj.map iZ)&&(d8 (h.leaves.map bN)&&(d8 (h.rules.map oX)&&true))))=true
 rw [z7 (fun _=>rfl),z7 (fun _=>rfl),z7 (fun _=>rfl),yf]
 rfl
theorem yx (ps:List (Str×Str)):nu [.dict (cD (bG ps))]=some (.im (.int ps.length)):=by
 have:M5 (.dict (cD (bG ps)))=some ps.length:=by
  show (if (cC cN (cD (bG ps))).isSome then some (cD (bG ps)).length else none)=_
  rw [qM]
  unfold cD bG
  rw [List.length_map,List.length_map]
  rfl
 unfold nu
 simp only [this]
 rfl
theorem t8 {zs:List Str} {k:Nat} (h:k < zs.length):∃z,z∈zs∧zs[k]?=some z∧iD (zs.map PyData.str) (k:Int)=some (.str z):=by
 obtain ⟨z,h1,h2,h3⟩:=vz (zs:=zs) (k:=(k:Int)) (by omega) (by omega)
 exact ⟨z,h1,by rw [Int.toNat_natCast] at h2; exact h2,h3⟩
theorem Gk {zs:List Str} {m:Nat} {ps:List (Str×Str)} (h:bJ (zs.take m) ps):bJ zs ps:=fun i x e=>by
 have up:∀j z,(zs.take m)[j]?=some z→zs[j]?=some z:=fun j z e=>by
  rw [List.getElem?_take] at e
  split at e
  ·exact e
  ·cases e
 obtain ⟨h1,h2⟩:=h i x e
 exact ⟨up i _ h1,h2.imp_right fun ⟨j,a,b⟩=>⟨j,a,up j _ b⟩⟩
theorem Ih {zs:List Str} {ps:List (Str×Str)} (hP:bJ zs ps) {k:Int} (h0:0≤k) (h1:k < ps.length):∃z,z∈ps.map (·.1)∧z∈zs∧iD (zs.map PyData.str) k=some (.str z):=by
 have hk:=pK hP
 have hl:ps.length≤zs.length:=by
  have:=congrArg List.length hk
  rw [List.length_map,List.length_take] at this
  omega
 obtain ⟨z,m,e,a⟩:=vz (zs:=zs) (k:=k) h0 (by omega)
 refine ⟨z,?_,m,a⟩
 rw [hk]
 refine List.mem_of_getElem? (i:=k.toNat) ?_
 rw [List.getElem?_take,if_pos (by omega)]
 exact e
theorem Vx {zs:List Str} {ps ps':List (Str×Str)} {lv:List cR} (p1:ps'.Perm ps) (p8:ps.length≤8) (Kd:lv.length≤16) (hl:∀r∈lv,qL zs (ps.map (·.1)) r) (up:(lv.map (·.1)).Pairwise (· < ·)):dh zs ps ⟨ps',[],lv,[]⟩ where
 parts:=p1
 p8:=p8
 r20:=Nat.zero_le _
 Kd:=Kd
 u10:=Nat.zero_le _
 mj:=fun r h=>absurd h List.not_mem_nil
 rup:=List.Pairwise.nil
 leaves:=hl
 ZM:=up
 rules:=fun r h=>absurd h List.not_mem_nil
 unlike:=List.nodup_nil
theorem Rk {e B C:Nat} {ds:List PyData} (h:∀d∈ds,xW e B d) (hc:ds.length≤C):xW (e + 1) (C * (B + 2) + 3) (.list ds):=by
 obtain ⟨h1,h2,h3⟩:=zH h
 refine ⟨by simpa [PyData.showable] using h1,by simp [PyData.depth]; omega,?_⟩
 simp only [PyData.shown]
 have:=listText_len_le (PyData.shownAll ds)
 have hl:(PyData.shownAll ds).length=ds.length:=PyData.shownAll_length ds
 rw [hl] at this
 have hm:ds.length * B≤C * B:=Nat.mul_le_mul_right B hc
 rw [Nat.mul_add]
 omega
theorem Rm {zs:List Str} {ps:List (Str×Str)} {ht:cM} (hN:Names zs) (hP:bJ zs ps) (hG:dh zs ps ht) {z a1 b1:Str} {n:Int} (hz:z∈zs) (ha:a1∈zs) (hb:b1∈zs) (n0:0≤n) (n1:n < 10 ^ 12):∃t:Str,zP [.list [bQ ht,cH z a1 b1 n]]=some (.im (.str t)):=by
 have s1:=JL hN.2 hP hG
 have st:∀x∈zs,xW 0 82 (.str x):=fun x hx=>fX (vW.name (hN.2 x hx))
 have s2:xW 1 (4 * (82 + 2) + 3) (cH z a1 b1 n):=eX (fun d hd=>by
  simp only [List.mem_cons,List.not_mem_nil,or_false] at hd
  rcases hd with rfl | rfl | rfl | rfl
  ·exact st _ hz
  ·exact (HD n0 n1).mono (Nat.le_refl _) (by decide)
  ·exact st _ ha
  ·exact st _ hb) (Nat.le_refl 4)
 have s3:xW 6 (2 * (200000 + 2) + 3) (.list [bQ ht,cH z a1 b1 n]):=Rk (fun d hd=>by
  simp only [List.mem_cons,List.not_mem_nil,or_false] at hd
  rcases hd with rfl | rfl
  ·exact s1
  ·exact s2.mono (by decide) (by decide)) (Nat.le_refl 2)
 refine ⟨(PyData.list [bQ ht,cH z a1 b1 n]).shown,if_pos ?_⟩
 have h1:(PyData.list [bQ ht,cH z a1 b1 n]).depth≤60:=Nat.le_trans s3.deep (by decide)
 have h2:(PyData.list [bQ ht,cH z a1 b1 n]).shown.length≤LIM:=Nat.le_trans s3.len (by show 2 * (200000 + 2) + 3≤1000000; decide)
 rw [show Ez (.list [bQ ht,cH z a1 b1 n])=true by show (Ez (bQ ht)&&_)=true; rw [JR]; rfl,s3.Vd,decide_eq_true h1,decide_eq_true h2]
 rfl
theorem lay_ints:∀ns:List Int,PyData.canLayAll0 (ns.map PyData.int)=true∧PyData.depthAll (ns.map PyData.int)=0∧iQ (ns.map PyData.int)=true
 | []=>⟨by simp [PyData.canLayAll0],by simp [PyData.depthAll],rfl⟩
 | z::zs=>by
  obtain ⟨h1,h2,h3⟩:=lay_ints zs
  refine ⟨by simp [PyData.canLayAll0,PyData.canLay0]; simpa using h1,by simp only [List.map_cons,PyData.depthAll,PyData.depth,h2]; rfl,?_⟩
  show (true&&iQ (zs.map PyData.int))=true
  rw [h3]
  rfl
theorem shaped_ints (ns:List Int):PySem.SeqAt.shaped (.list (ns.map PyData.int))=true:=by
 obtain ⟨h1,h2,_⟩:=lay_ints ns
 unfold PySem.SeqAt.shaped
 simp only [PyData.canLay0,h1,PyData.depth,h2]
 decide
theorem Rn (x:Int) (l:List Int):tD (.list ((x::l).map .int)) (.list [])=some (.im (.bool true)):=by
 have e:Uo (.list ((x::l).map .int)) (.list [])=some false:=by
  show (if Ez (.list ((x::l).map PyData.int))&&Ez (.list [])&&(PySem.SeqAt.shaped (.list ((x::l).map PyData.int))&&PySem.SeqAt.shaped (.list [])) then some (PyData.eqv (.list ((x::l).map .int)) (.list [])) else none)=_
  rw [shaped_ints,show Ez (.list ((x::l).map PyData.int))=true from (lay_ints (x::l)).2.2]
  rfl
 simp only [tD,e,Option.map_some]
 rfl
theorem Ro (x:Int) (l:List Int):tH ((x::l).map PyData.int) none (some 1)=[.int x]:=by
 unfold tH
 rw [show HT.dW ((x::l).map PyData.int).length 0 none=0 from rfl,show (some (1:Int))=some ((1:Nat):Int) from rfl,HT.Gw]
 simp
noncomputable def gk (os:List Str) (n day:Int) (a1 b1 hd:Str) (r:cR):Bool:=decide (r.2.1=hd)&&vO os n day a1 b1 r
theorem Rp {os:List Str} {n day:Int} {a1 b1 hd sg:Str} {ht:cM} (Vy:∀r∈ht.leaves,(r.2.1=hd∧r.2.2.1=sg)∨(r.2.1=sg∧r.2.2.1=hd)) (hne:hd≠sg) (hup:(ht.leaves.map (·.1)).Pairwise (· < ·)):
  yw (nP ht os n day a1 b1) hd sg (match (ht.leaves.filter (gk os n day a1 b1 hd)).map (·.1) with | []=>none | x::_=>some [x]):=by
 have mem:∀k q,(k,hd,q)∈nP ht os n day a1 b1 ↔ ∃r∈ht.leaves.filter (gk os n day a1 b1 hd),r.1=k∧r.2.2.1=q:=fun k q=>by
  unfold nP
  rw [List.mem_map]
  constructor
  ·rintro ⟨r,hr,e⟩
   obtain ⟨h1,h2⟩:=List.mem_filter.mp hr
   injection e with e1 e2
   injection e2 with e2 e3
   exact ⟨r,List.mem_filter.mpr ⟨h1,by unfold gk; rw [decide_eq_true e2,h2]; rfl⟩,e1,e3⟩
  ·rintro ⟨r,hr,rfl,rfl⟩
   obtain ⟨h1,h2⟩:=List.mem_filter.mp hr
   unfold gk at h2
   rw [Bool.and_eq_true,decide_eq_true_eq] at h2
   exact ⟨r,List.mem_filter.mpr ⟨h1,h2.2⟩,by unfold Xy; rw [h2.1]⟩
 have Z1:((ht.leaves.filter (gk os n day a1 b1 hd)).map (·.1)).Pairwise (· < ·):=hup.sublist (List.Sublist.map _ List.filter_sublist)
 have tk:∀r∈ht.leaves.filter (gk os n day a1 b1 hd),r.2.2.1=sg:=fun r hr=>by
  obtain ⟨h1,h2⟩:=List.mem_filter.mp hr
  unfold gk at h2
  rw [Bool.and_eq_true,decide_eq_true_eq] at h2
  rcases Vy r h1 with h | h
  ·exact h.2
  ·exact absurd (h2.1.symm.trans h.1) hne
 generalize ht.leaves.filter (gk os n day a1 b1 hd)=fl at mem Z1 tk
 have first:∀p,Ke (nP ht os n day a1 b1) hd p sg→∃r∈fl,∃p',p=r.1::p':=fun p hp=>by
  cases hp with
  | nil=>exact absurd rfl hne
  | cons hw _=>
   obtain ⟨r,hr,h1,_⟩:=(mem _ _).mp hw
   exact ⟨r,hr,_,by rw [h1]⟩
 cases fl with
 | nil=>exact fun p hp=>by obtain ⟨r,hr,_⟩:=first p hp; cases hr
 | cons r0 fl=>
  refine ⟨.cons ((mem r0.1 sg).mpr ⟨r0,List.mem_cons_self,rfl,tk r0 List.mem_cons_self⟩) (.nil sg),fun p hp=>?_⟩
  obtain ⟨r,hr,p',rfl⟩:=first p hp
  cases p' with
  | cons _ _=>exact .inl (by simp)
  | nil=>
   refine .inr ⟨rfl,?_⟩
   rcases List.mem_cons.mp hr with rfl | hr
   ·exact .inr ⟨rfl,trivial⟩
   ·rw [List.map_cons,List.pairwise_cons] at Z1
    exact .inl (Z1.1 _ (List.mem_map.mpr ⟨r,hr,rfl⟩))
theorem Ii {C:Ce} {zs:List Str} {ps:List (Str×Str)} {ht:cM} (hN:Names zs) (hP:bJ zs ps) (hG:dh zs ps ht) {z a1 b1 hd sg:Str} {day:Int} (Vy:∀r∈ht.leaves,(r.2.1=hd∧r.2.2.1=sg)∨(r.2.1=sg∧r.2.2.1=hd)) (hne:hd≠sg) (v0 v1 v3 v6 v7 v8 v9 v10 fM sU sV:Option Vl):
  ∃u16 u17,mJ [v0,v1,some (.ow (.dict (cD (bG ps)))),v3,some (.im (.int day)),some (.ow (.list (ht.leaves.map bN))),v6,v7,v8,v9,v10,some (.im (bQ ht)),fM,some (.im (cH z a1 b1 50)),some (.im (.str hd)),some (.im (.str sg)),sU,sV] C=
   some (.nx,[v0,v1,some (.ow (.dict (cD (bG ps)))),v3,some (.im (.int day)),some (.ow (.list (ht.leaves.map bN))),v6,v7,v8,v9,v10,some (.im (bQ ht)),fM,some (.im (cH z a1 b1 50)),some (.im (.str hd)),some (.im (.str sg)),u16,u17],C):=by
 refine hide fun GG gg=>?_
 have c:=dJ (T:=.one) (ft:=mG) (fe:=mH) (fs:=[some (.im (.str hd)),some (.im (.dict (cD (bG ps)))),some (.im (cH z a1 b1 50)),some (.im (.int day))]) (C:=C) bN (gk (up ps z) 50 day a1 b1 hd) (fun r=>.int r.1) (l:=ht.leaves) fun r _=>by
  have q:=Ri (C:=C) hN hP hG.p8 z a1 b1 50 day r
  refine ⟨[bN r],rfl,?_,fun _=>⟨.im (.int r.1),[some (.im (bN r)),some (.im (.str hd)),some (.im (.dict (cD (bG ps)))),some (.im (cH z a1 b1 50)),some (.im (.int day))],?_,rfl⟩⟩
  ·unfold gk
   simp only [bN] at q ⊢
   cases h1:decide (r.2.1=hd) with
   | false=>simp_arith [ji,List.cons_append,List.nil_append,h1]
   | true=>simp_arith [ji,List.cons_append,List.nil_append,h1,q]
  ·simp only [bN]
   simp_arith [ji,List.cons_append,List.nil_append]
 obtain ⟨o1,r1,r2,r3⟩:=Dm (C:=C) hN hP hG z a1 b1 50 day hd sg
 obtain ⟨o2,r4,r5,r6⟩:=Dm (C:=C) hN hP hG z a1 b1 50 day hd hd
 have hl:(ht.leaves.filter (gk (up ps z) 50 day a1 b1 hd)).length≤16:=Nat.le_trans (List.length_filter_le _ _) hG.Kd
 have d1:o1=match (ht.leaves.filter (gk (up ps z) 50 day a1 b1 hd)).map (·.1) with | []=>none | x::_=>some [x]:=by
  by_cases hs:(hd=a1∨hd=b1)∨(sg=a1∨sg=b1)
  ·rw [r2 hs]
   have:ht.leaves.filter (gk (up ps z) 50 day a1 b1 hd)=[]:=List.filter_eq_nil_iff.mpr fun r hr=>by
    have:vO (up ps z) 50 day a1 b1 r=false:=by
     unfold vO
     have:decide (r.2.1=a1∨r.2.1=b1)=true∨decide (r.2.2.1=a1∨r.2.2.1=b1)=true:=by
      rw [decide_eq_true_eq,decide_eq_true_eq]
      rcases Vy r hr with h | h <;> rw [h.1,h.2]
      ·exact hs
      ·exact hs.symm
     rcases this with h | h <;> rw [h] <;> simp
    unfold gk
    rw [this,Bool.and_false]
    exact Bool.false_ne_true
   rw [this]
   rfl
  ·exact (r3 hs).unique (Rp Vy hne hG.ZM)
 have d2:o2=if hd=a1∨hd=b1 then none else some []:=by
  by_cases hs:hd=a1∨hd=b1
  ·rw [if_pos hs,r5 (.inl hs)]
  ·rw [if_neg hs]
   exact (r6 (fun z=>z.elim hs hs)).unique (jc.self _ hd)
 have s2:=vV (C:=C) 1 o2 (fun r e=>by rw [d2] at e; split at e <;> cases e; exact Nat.zero_le _)
 have ct:tH [PyData.str z,.int 50,.str a1,.str b1] (some 2) none=[.str a1,.str b1]:=rfl
 have c2:(ht.leaves.filter (gk (up ps z) 50 day a1 b1 hd)).map (fun r=>PyData.int r.1)=((ht.leaves.filter (gk (up ps z) 50 day a1 b1 hd)).map (·.1)).map .int:=by rw [List.map_map]; rfl
 rw [c2] at c
 have hl2:((ht.leaves.filter (gk (up ps z) 50 day a1 b1 hd)).map (·.1)).length≤16:=by rw [List.length_map]; exact hl
 have q:(ht.leaves.length≤1000000)=True:=eq_true (by have:=hG.Kd; omega)
 generalize (ht.leaves.filter (gk (up ps z) 50 day a1 b1 hd)).map (·.1)=fl at c d1 hl2
 have ql:(fl.length≤1000000)=True:=eq_true (by omega)
 refine gg ?_
 cases fl with
 | nil=>
  have d1:o1=none:=d1
  subst d1
  have s1:=vV (C:=C) 1 none (fun r e=>nomatch e)
  have nn:tD (.list []) (.list [])=some (.im (.bool false)):=rfl
  have nl:d8 []=true:=rfl
  simp only [vU,still] at s1 r1
  by_cases hs:hd=a1∨hd=b1
  ·rw [if_pos hs] at d2
   subst d2
   simp only [vU,still,List.map_nil] at s2 r4
   have h1:=decide_eq_true hs
   simp_arith [c,nl,r1,s1,nn,oV,n6,rK,Cj,ct,nO,h1,r4,s2]
   exact ⟨_,_,rfl⟩
  ·rw [if_neg hs] at d2
   subst d2
   simp only [vU,still,List.map_nil] at s2 r4
   have h1:=decide_eq_false hs
   simp_arith [c,nl,r1,s1,nn,oV,n6,rK,Cj,ct,nO,h1,r4,s2]
   exact ⟨_,_,rfl⟩
 | cons x fl=>
  have d1:o1=some [x]:=d1
  subst d1
  have s1:=vV (C:=C) 1 (some [x]) (fun r e=>by cases e; exact (by decide:1≤1000))
  have nn:=Rn x fl
  have cx:=Ro x fl
  have nl:d8 ((x::fl).map .int)=true:=noLs_ints _
  rw [List.map_cons] at nl
  simp only [vU,still,List.map_cons,List.map_nil] at s1 r1 nn cx
  rw [List.length_cons] at ql
  by_cases hs:hd=a1∨hd=b1
  ·rw [if_pos hs] at d2
   subst d2
   simp only [vU,still,List.map_nil] at s2 r4
   have h1:=decide_eq_true hs
   simp_arith [c,nl,r1,s1,nn,cx,ql,oV,n6,rK,Cj,ct,nO,h1,r4,s2]
   exact ⟨_,_,rfl⟩
  ·rw [if_neg hs] at d2
   subst d2
   simp only [vU,still,List.map_nil] at s2 r4
   have h1:=decide_eq_false hs
   simp_arith [c,nl,r1,s1,nn,cx,ql,oV,n6,rK,Cj,ct,nO,h1,r4,s2]
   exact ⟨_,_,rfl⟩
theorem Rq {d k:Int} (d1:1≤d) (d2:d≤50) (h0:0≤k) (h1:k < 6):∃f l:Int,iD [PyData.tuple [.int d,.int d],.tuple [.int 0,.int d],.tuple [.int d,.int 99999],.tuple [.int 0,.int (d - 1)],.tuple [.int (d + 1),.int (d + 5)],.tuple [.int 0,.int 99999]] k=some (.tuple [.int f,.int l])∧0≤f∧f≤l∧l≤99999:=by
 obtain ⟨n,rfl⟩:∃n:Nat,k=n:=⟨k.toNat,by omega⟩
 have h:n=0∨n=1∨n=2∨n=3∨n=4∨n=5:=by omega
 rcases h with rfl | rfl | rfl | rfl | rfl | rfl
 ·exact ⟨d,d,a_t0 _ _,by omega,by omega,by omega⟩
 ·exact ⟨0,d,a_t1 _ _ _,by omega,by omega,by omega⟩
 ·exact ⟨d,99999,a_t2 _ _ _ _,by omega,by omega,by omega⟩
 ·exact ⟨0,d - 1,a_t3 _ _ _ _ _,by omega,by omega,by omega⟩
 ·exact ⟨d + 1,d + 5,a_t4 _ _ _ _ _ _,by omega,by omega,by omega⟩
 ·exact ⟨0,99999,a_t5 _ _ _ _ _ _ _,by omega,by omega,by omega⟩
theorem Rr {k:Int} (h0:0≤k) (h1:k < 4):∃m:Int,iD [PyData.int 49,.int 50,.int 51,.int 1000000000] k=some (.int m)∧0≤m∧m≤1000000000:=by
 obtain ⟨n,rfl⟩:∃n:Nat,k=n:=⟨k.toNat,by omega⟩
 have h:n=0∨n=1∨n=2∨n=3:=by omega
 rcases h with rfl | rfl | rfl | rfl
 ·exact ⟨49,a_t0 _ _,by omega,by omega⟩
 ·exact ⟨50,a_t1 _ _ _,by omega,by omega⟩
 ·exact ⟨51,a_t2 _ _ _ _,by omega,by omega⟩
 ·exact ⟨1000000000,a_t3 _ _ _ _ _,by omega,by omega⟩
noncomputable abbrev Ae (b:Nat) (zs:List Str) (ps:List (Str×Str)) (pap:PyData) (day:Int) (lv:List cR) (v6 v7 v8 v9 v10 v11 fM yc vo vp sU sV:Option Vl):En:=
 [some (.ce b),some (.ow (.list (zs.map .str))),some (.ow (.dict (cD (bG ps)))),some (.im pap),some (.im (.int day)),some (.ow (.list (lv.map bN))),v6,v7,v8,v9,v10,v11,fM,yc,vo,vp,sU,sV]
noncomputable def Yp (A B:Str) (r:cR):Prop:=(r.2.1=A∧r.2.2.1=B)∨(r.2.1=B∧r.2.2.1=A)
theorem Ou {C:Ce} {b L j:Nat} {zs:List Str} {ps:List (Str×Str)} {z a1 b1 A B:Str} {day num:Int} {lv:List cR} (hB:Bl L C b (j + 5)) (hN:Names zs) (hP:bJ zs ps) (p0:0 < ps.length) (p8:ps.length≤8) (hz:z∈ps.map (·.1)) (d1:1≤day) (d2:day≤50) (n0:0≤num∧num≤2000) (iA:zs[10]?=some A) (iB:zs[11]?=some B) (ll:lv.length≤16) (v7 v8 v9 v10 v11 fM yc vo vp sU sV:Option Vl):
  ∃(r:cR) (C':Ce) (w7 w8 w9 w10:Option Vl),cJ (Ae b zs ps (cH z a1 b1 50) day lv (some (.im (.int num))) v7 v8 v9 v10 v11 fM yc vo vp sU sV) C=some (.nx,Ae b zs ps (cH z a1 b1 50) day (lv++[r]) (some (.im (.int num))) w7 w8 w9 w10 v11 fM yc vo vp sU sV,C')∧r.1=num∧qL zs (ps.map (·.1)) r∧Yp A B r∧Bl L C' b j:=by
 refine hide fun GG gg=>?_
 obtain ⟨t1,C1,e1,_,_,Dt⟩:=bZ (m:=4) hB (by decide) (by decide)
 obtain ⟨t2,C2,e2,g0,g1,hB2⟩:=bZ (m:=6) Dt (by decide) (by decide)
 obtain ⟨f,l,e3,f0,f1,f2⟩:=Rq d1 d2 g0 g1
 obtain ⟨t3,C3,e4,_,_,hB3⟩:=bZ (m:=2) hB2 (by decide) (by decide)
 have mA:=List.mem_of_getElem? iA
 have mB:=List.mem_of_getElem? iB
 have hl:11 < zs.length:=(List.getElem?_eq_some_iff.mp iB).1
 have xA:iD (zs.map PyData.str) 10=some (.str A):=eO (j:=10) (by rw [List.getElem?_map,iA]; rfl)
 have xB:iD (zs.map PyData.str) 11=some (.str B):=eO (j:=11) (by rw [List.getElem?_map,iB]; rfl)
 have hne:A≠B:=fun z=>by
  obtain ⟨x1,y1⟩:=List.getElem?_eq_some_iff.mp iA
  obtain ⟨x2,y2⟩:=List.getElem?_eq_some_iff.mp iB
  exact List.pairwise_iff_getElem.mp hN.1 10 11 x1 x2 (by decide) (y1.trans (z.trans y2.symm))
 have ln:=yx ps
 have q:(lv.length < 1000000)=True:=eq_true (by omega)
 have pw:xM (.int 10) (.int 9)=some (.im (.int 1000000000)):=rfl
 have t12:∀a b c:PyData,aX (.tuple [a]) (.tuple [b,c])=some (.im (.tuple [a,b,c])):=fun _ _ _=>Cy (Nat.le_of_ble_eq_true rfl)
 have t31:∀a b c d:PyData,aX (.tuple [a,b,c]) (.tuple [d])=some (.im (.tuple [a,b,c,d])):=fun _ _ _ _=>Cy (Nat.le_of_ble_eq_true rfl)
 have t42:∀a b c d e f:PyData,aX (.tuple [a,b,c,d]) (.tuple [e,f])=some (.im (.tuple [a,b,c,d,e,f])):=fun _ _ _ _ _ _=>Cy (Nat.le_of_ble_eq_true rfl)
 have t61:∀a b c d e f g:PyData,aX (.tuple [a,b,c,d,e,f]) (.tuple [g])=some (.im (.tuple [a,b,c,d,e,f,g])):=fun _ _ _ _ _ _ _=>Cy (Nat.le_of_ble_eq_true rfl)
 have fin:∀(C4:Ce) (y:Str),y∈ps.map (·.1)→Bl L C4 b (j + 1)→(uP (fTst (aC jF (au (fCal aN (aCons (fVar 0) (aCons (fCst (.int 2)) aNil)))) (au (fCst (.int 0))))) (aC aZ (aA 1) (au (fCal aN (aCons (fVar 0) (aCons (fFun nu (bCons (aA 2) bNil)) aNil))))) (aC aZ (aA 3) (au (fCst (.int 0)))) (Ae b zs ps (cH z a1 b1 50) day lv (some (.im (.int num))) (some (.im (.int (if (t1==0)=true then 1 else 0)))) (some (.im (.tuple [.int f,.int l]))) v9 v10 v11 fM yc vo vp sU sV) C2=some (.im (.str y),Ae b zs ps (cH z a1 b1 50) day lv (some (.im (.int num))) (some (.im (.int (if (t1==0)=true then 1 else 0)))) (some (.im (.tuple [.int f,.int l]))) v9 v10 v11 fM yc vo vp sU sV,C4))→GG:=fun C4 y hy Rf e5=>by
  obtain ⟨t5,C5,e6,h0,h1,Yq⟩:=bZ (m:=4) Rf (by decide) (by decide)
  obtain ⟨m,e7,m0,m1⟩:=Rr h0 h1
  by_cases ht:t1=0
  ·have hd:(t1==0)=true:=beq_iff_eq.mpr ht
   simp only [hd,Ae,if_true,if_false,Bool.false_eq_true] at e5
   refine gg ⟨(num,B,A,y,f,l,m),C5,some (.im (.int 1)),some (.im (.tuple [.int f,.int l])),some (.im (.str y)),some (.im (.tuple [.str B,.str A])),?_,rfl,⟨n0,mB,mA,hne.symm,hy,⟨f0,f1,f2⟩,⟨m0,m1⟩⟩,.inr ⟨rfl,rfl⟩,Yq⟩
   have i1:(10:Int) + 1=11:=rfl
   have i2:(11:Int) - 1=10:=rfl
   simp_arith [cJ,e1,uX,hd,e2,e3,↓e5,i1,i2,xA,xB,t12,t31,t42,t61,pw,e6,e7,oM,lX,q]
   simp only [Ae,List.map_append,List.map_cons,List.map_nil,bN]
  ·have hd:(t1==0)=false:=beq_eq_false_iff_ne.mpr ht
   simp only [hd,Ae,if_true,if_false,Bool.false_eq_true] at e5
   refine gg ⟨(num,A,B,y,f,l,m),C5,some (.im (.int 0)),some (.im (.tuple [.int f,.int l])),some (.im (.str y)),some (.im (.tuple [.str A,.str B])),?_,rfl,⟨n0,mA,mB,hne,hy,⟨f0,f1,f2⟩,⟨m0,m1⟩⟩,.inl ⟨rfl,rfl⟩,Yq⟩
   have i1:(10:Int) + 0=10:=rfl
   have i2:(11:Int) - 0=11:=rfl
   simp_arith [cJ,e1,uX,hd,e2,e3,↓e5,i1,i2,xA,xB,t12,t31,t42,t61,pw,e6,e7,oM,lX,q]
   simp only [Ae,List.map_append,List.map_cons,List.map_nil,bN]
 by_cases h3:t3=0
 ·have hd:(t3==0)=true:=beq_iff_eq.mpr h3
  obtain ⟨t4,C4,e5,h0,h1,Rf⟩:=bZ (m:=(ps.length:Int)) hB3 (by omega) (by omega)
  obtain ⟨y,hy,_,e6⟩:=Ih hP h0 h1
  exact fin C4 y hy Rf (by simp_arith [e4,hd,ln,e5,e6])
 ·have hd:(t3==0)=false:=beq_eq_false_iff_ne.mpr h3
  exact fin C3 z hz hB3.dec (by simp_arith [e4,hd])
theorem J7 {C:Ce} {b L j:Nat} {zs:List Str} {ps:List (Str×Str)} {z a1 b1 A B:Str} {day:Int} {ns:List Int} (hB:Bl L C b (j + 5 * 4)) (hN:Names zs) (hP:bJ zs ps) (p0:0 < ps.length) (p8:ps.length≤8) (hz:z∈ps.map (·.1)) (d1:1≤day) (d2:day≤50) (hn:∀x∈ns,0≤x∧x≤2000) (nl:ns.length≤4) (iA:zs[10]?=some A) (iB:zs[11]?=some B) (v11 fM yc vo vp sU sV:Option Vl):
  ∃(lv:List cR) (C':Ce) (w6 w7 w8 w9 w10:Option Vl),iU (gNm 6) cJ (ns.map .int) (Ae b zs ps (cH z a1 b1 50) day [] none none none none none v11 fM yc vo vp sU sV) C=some (.nx,Ae b zs ps (cH z a1 b1 50) day lv w6 w7 w8 w9 w10 v11 fM yc vo vp sU sV,C')∧lv.map (·.1)=ns∧(∀r∈lv,qL zs (ps.map (·.1)) r∧Yp A B r)∧Bl L C' b j:=by
 refine hide fun GG gg=>?_
 obtain ⟨env',C',e,lv,w6,w7,w8,w9,w10,he,hm,hr,hB'⟩:=fG (g:=gNm 6) (body:=cJ) (its:=ns.map .int) (env:=Ae b zs ps (cH z a1 b1 50) day [] none none none none none v11 fM yc vo vp sU sV) (C:=C)
  (fun i env C2=>∃(lv:List cR) (w6 w7 w8 w9 w10:Option Vl),env=Ae b zs ps (cH z a1 b1 50) day lv w6 w7 w8 w9 w10 v11 fM yc vo vp sU sV∧lv.map (·.1)=ns.take i∧(∀r∈lv,qL zs (ps.map (·.1)) r∧Yp A B r)∧Bl L C2 b (j + 5 * (4 - i)))
  ⟨[],none,none,none,none,none,rfl,rfl,(fun _ h=>nomatch h),hB⟩ (fun i d env C2 hd hI=>by
   obtain ⟨lv,w6,w7,w8,w9,w10,rfl,hm,hr,hB⟩:=hI
   obtain ⟨x,rfl,hx,mx,hi⟩:=QW hd
   rw [HN j 5 (by omega:i < 4)] at hB
   have ll:lv.length≤16:=by
    have:=congrArg List.length hm
    rw [List.length_map,List.length_take] at this
    omega
   obtain ⟨r,C3,w7,w8,w9,w10,e,h1,h2,h3,hB3⟩:=Ou (a1:=a1) (b1:=b1) hB hN hP p0 p8 hz d1 d2 (hn x mx) iA iB ll w7 w8 w9 w10 v11 fM yc vo vp sU sV
   refine ⟨_,.nx,_,C3,rfl,e,.inl rfl,lv++[r],_,_,_,_,_,rfl,?_,fun q hq=>?_,hB3⟩
   ·rw [List.map_append,hm,take_snoc hx,List.map_cons,h1]
    rfl
   ·rcases List.mem_append.mp hq with hq | hq
    ·exact hr q hq
    ·rw [List.mem_singleton.mp hq]
     exact ⟨h2,h3⟩)
 rw [List.length_map] at hm hB'
 rw [List.take_length] at hm
 subst he
 exact gg ⟨lv,C',w6,w7,w8,w9,w10,e,hm,hr,hB'.mono (Nat.le_add_right _ _)⟩
theorem Rt {C:Ce} {b:Nat} {zs:List Str} {ps:List (Str×Str)} {ht:cM} (hN:Names zs) (hP:bJ zs ps) (hG:dh zs ps ht) {z a1 b1 A B:Str} {pap:PyData} {day:Int} (iA:zs[10]?=some A) (iB:zs[11]?=some B) (Vy:∀r∈ht.leaves,Yp A B r) (v6 v7 v8 v9 v10 fM vo vp sU sV:Option Vl):
  ∃w14 w15 w16 w17,ie (Ae b zs ps pap day ht.leaves v6 v7 v8 v9 v10 (some (.im (bQ ht))) fM (some (.im (cH z a1 b1 50))) vo vp sU sV) C=some (.nx,Ae b zs ps pap day ht.leaves v6 v7 v8 v9 v10 (some (.im (bQ ht))) fM (some (.im (cH z a1 b1 50))) w14 w15 w16 w17,C):=by
 have xA:iD (zs.map PyData.str) 10=some (.str A):=eO (j:=10) (by rw [List.getElem?_map,iA]; rfl)
 have xB:iD (zs.map PyData.str) 11=some (.str B):=eO (j:=11) (by rw [List.getElem?_map,iB]; rfl)
 have hne:A≠B:=fun z=>by
  obtain ⟨x1,y1⟩:=List.getElem?_eq_some_iff.mp iA
  obtain ⟨x2,y2⟩:=List.getElem?_eq_some_iff.mp iB
  exact List.pairwise_iff_getElem.mp hN.1 10 11 x1 x2 (by decide) (y1.trans (z.trans y2.symm))
 obtain ⟨u1,u2,e1⟩:=Ii (C:=C) hN hP hG (z:=z) (a1:=a1) (b1:=b1) (hd:=A) (sg:=B) (day:=day) Vy hne (some (.ce b)) (some (.ow (.list (zs.map .str)))) (some (.im pap)) v6 v7 v8 v9 v10 fM sU sV
 obtain ⟨u3,u4,e2⟩:=Ii (C:=C) hN hP hG (z:=z) (a1:=a1) (b1:=b1) (hd:=B) (sg:=A) (day:=day) (fun r hr=>(Vy r hr).symm) hne.symm (some (.ce b)) (some (.ow (.list (zs.map .str)))) (some (.im pap)) v6 v7 v8 v9 v10 fM u1 u2
 refine ⟨some (.im (.str B)),some (.im (.str A)),u3,u4,?_⟩
 simp only [Ae]
 simp_arith [xA,xB,iz,iU,↓e1,↓e2]
inductive OE (b:Nat) (zs:List Str) (ps:List (Str×Str)) (pap:PyData) (day:Int) (ht:cM) (kept:Option Vl):En→Prop
 | mk (v6 v7 v8 v9 v10 yc vo vp sU sV:Option Vl):OE b zs ps pap day ht kept (Ae b zs ps pap day ht.leaves v6 v7 v8 v9 v10 (some (.im (bQ ht))) kept yc vo vp sU sV)
theorem Vz {C:Ce} {b L j:Nat} (hB:Bl L C b (j + 200)):∃C',gh [.ce b] C=some (.im (.bool true),C')∧Bl L C' b j:=by
 refine hide fun GG gg=>?_
 obtain ⟨zs,C1,e1,hN,h12,Dt⟩:=Oi (m:=12) (j:=j + 188) hB (by decide) (by decide)
 have h12:zs.length=12:=h12
 obtain ⟨t1,C2,e2,a0,a1,hB2⟩:=bZ (m:=8) (k:=j + 187) Dt (by decide) (by decide)
 have ct:=Gj (zs:=zs) (m:=1 + t1) (by omega) (by omega)
 have tl:(zs.take (1 + t1).toNat).length=(1 + t1).toNat:=by rw [List.length_take]; omega
 obtain ⟨ps,C3,e3,hP,pl,hB3⟩:=J2 (j:=j + 171) (zs:=zs.take (1 + t1).toNat) hB2 (by omega) ⟨hN.1.sublist (List.take_sublist _ _),fun z hz=>hN.2 z (List.mem_of_mem_take hz)⟩
 have hP:=Gk hP
 have p0:0 < ps.length:=by omega
 have p8:ps.length≤8:=by omega
 have ln:=yx ps
 obtain ⟨t2,C4,e4,b0,b1,Rf⟩:=bZ (m:=(ps.length:Int)) (k:=j + 170) hB3 (by omega) (by omega)
 obtain ⟨z,hz,mz,xz⟩:=Ih hP b0 b1
 obtain ⟨z8,m8,i8,x8⟩:=t8 (zs:=zs) (k:=8) (by omega)
 obtain ⟨A,mA,iA,xA⟩:=t8 (zs:=zs) (k:=10) (by omega)
 obtain ⟨B,mB,iB,xB⟩:=t8 (zs:=zs) (k:=11) (by omega)
 obtain ⟨t3,C5,e5,c0,c1,Yq⟩:=bZ (m:=2) (k:=j + 169) Rf (by decide) (by decide)
 obtain ⟨k9,w9,m9,xk,x9⟩:∃(k9:Int) (w9:Str),w9∈zs∧iD [PyData.int 8,.int 9] t3=some (.int k9)∧iD (zs.map PyData.str) k9=some (.str w9):=by
  obtain ⟨z9,m9,_,x9⟩:=t8 (zs:=zs) (k:=9) (by omega)
  have:t3=0∨t3=1:=by omega
  rcases this with rfl | rfl
  ·exact ⟨8,z8,m8,a_t0 _ _,x8⟩
  ·exact ⟨9,z9,m9,a_t1 _ _ _,x9⟩
 obtain ⟨t4,C6,e6,f0,f1,hB6⟩:=bZ (m:=50) (k:=j + 168) Yq (by decide) (by decide)
 obtain ⟨t5,C7,e7,g0,g1,hB7⟩:=bZ (m:=4) (k:=j + 167) hB6 (by decide) (by decide)
 obtain ⟨ns,C8,e8,nl,hn,up,hB8⟩:=J3 (j:=j + 66) (m:=1 + t5) hB7 (by omega) (by omega)
 obtain ⟨lv,C9,w6,w7,w8,w9',w10,e9,hm,hr,hB9⟩:=J7 (a1:=z8) (b1:=w9) (day:=1 + t4) (j:=j + 46) hB8 hN hP p0 p8 hz (by omega) (by omega) hn (by omega) iA iB none none none none none none none
 obtain ⟨ps',p1,e10⟩:=Dk (C:=C9) p0 p8 lv
 have ll:lv.length≤4:=by
  have:=congrArg List.length hm
  rw [List.length_map] at this
  omega
 have hG:dh zs ps ⟨ps',[],lv,[]⟩:=Vx p1 p8 (by omega) (fun r h=>(hr r h).1) (by rw [hm]; exact up)
 obtain ⟨t,e11⟩:=Rm hN hP hG mz m8 m9 (n:=50) (by decide) (by decide)
 obtain ⟨env',C',e12,hE,hC⟩:=fG (g:=gNm 13) (body:=ie) (its:=[cH z z8 w9 50,cH z A z8 50,cH z z8 B 50]) (env:=Ae b zs ps (cH z z8 w9 50) (1 + t4) lv w6 w7 w8 w9' w10 (some (.im (bQ ⟨ps',[],lv,[]⟩))) (some (.im (.str t))) none none none none none) (C:=C9)
  (fun i env C1=>OE b zs ps (cH z z8 w9 50) (1 + t4) ⟨ps',[],lv,[]⟩ (some (.im (.str t))) env∧C1=C9) ⟨.mk ..,rfl⟩ (fun i d env C1 hd hI=>by
   obtain ⟨hE,rfl⟩:=hI
   cases hE with
   | mk v6 v7 v8 v9 v10 yc vo vp sU sV=>
   have hd:∃x y,d=cH z x y 50:=by
    have:=List.mem_of_getElem? hd
    simp only [List.mem_cons,List.not_mem_nil,or_false] at this
    rcases this with rfl | rfl | rfl <;> exact ⟨_,_,rfl⟩
   obtain ⟨x,y,rfl⟩:=hd
   obtain ⟨w14,w15,w16,w17,e⟩:=Rt (C:=C1) (b:=b) hN hP hG (z:=z) (a1:=x) (b1:=y) (pap:=cH z z8 w9 50) (day:=1 + t4) iA iB (fun r h=>(hr r h).2) v6 v7 v8 v9 v10 (some (.im (.str t))) vo vp sU sV
   exact ⟨_,.nx,_,C1,rfl,e,.inl rfl,.mk ..,rfl⟩)
 subst hC
 have hl:=hB.eq hB9
 cases hE with
 | mk v6 v7 v8 v9 v10 yc vo vp sU sV=>
 refine gg ⟨C',cF [some (.ce b),none,none,none,none,none,none,none,none,none,none,none,none,none,none,none,none,none] rfl rfl ?_ rfl hl,hB9.mono (by omega)⟩
 have ctp:tH [PyData.str z,.int 50,.str z8,.str w9] none (some 2)=[.str z,.int 50]:=rfl
 have t22:∀a b c d:PyData,aX (.tuple [a,b]) (.tuple [c,d])=some (.im (.tuple [a,b,c,d])):=fun _ _ _ _=>Cy (Nat.le_of_ble_eq_true rfl)
 have x8:iD (zs.map PyData.str) 8=some (.str z8):=x8
 have xA:iD (zs.map PyData.str) 10=some (.str A):=xA
 have xB:iD (zs.map PyData.str) 11=some (.str B):=xB
 simp only [Ae,List.map_nil] at e9 e12
 simp_arith [lK,e1,oV,n6,rK,Cj,e2,ct,e3,ln,e4,xz,x8,e5,xk,x9,e6,e7,e8,iz,e9,e10,Rj,e11,ctp,t22,xA,xB,e12,eq_strs,decide_true]
theorem Ov (ns:List Int) (h:ns.length≤63):∃C',yt [.sc ns] []=some (.im (.bool true),C'):=by
 obtain ⟨m,hm,m1,m2⟩:∃m:Int,(1 + if (ns.length:Int) < 6 then (ns.length:Int) else 6)=m∧0≤m∧m≤7:=⟨_,rfl,by split <;> omega,by split <;> omega⟩
 obtain ⟨env',C',e,he⟩:=fG (g:=gNm 1) (body:=vJ) (its:=iT 0 m.toNat) (env:=[some (.sc ns),none,none,none]) (C:=[])
  (fun i env C1=>∃v1 v2 v3,env=[some (.sc ns),v1,v2,v3]) ⟨_,_,_,rfl⟩ (fun i d env C1 hd hI=>by
   obtain ⟨v1,v2,v3,rfl⟩:=hI
   obtain ⟨rfl,hi⟩:=oh hd
   obtain ⟨x,y,hb,x0⟩:=Od (C:=C1) (ns:=ns) (k:=0 + (i:Int)) (by omega) (by omega)
   have hB:=Vp (y:=y) C1 x0
   obtain ⟨Xl,C2,e2,v3',he2,_⟩:=fG (g:=gNm 3) (body:=Df) (its:=iT 0 3) (env:=[some (.sc ns),some (.im (.int (0 + (i:Int)))),some (.ce C1.length),v3]) (C:=C1++[[x,y,0]])
    (fun j env C2=>(∃v3,env=[some (.sc ns),some (.im (.int (0 + (i:Int)))),some (.ce C1.length),v3]∧Bl (C1.length + 1) C2 C1.length (799400 + 200 * (3 - j)))) ⟨v3,rfl,hB⟩ (fun j d env C3 hd hI=>by
     obtain ⟨v3,rfl,hB⟩:=hI
     obtain ⟨rfl,hj⟩:=oh hd
     rw [HN 799400 200 hj] at hB
     obtain ⟨C4,e,Rf⟩:=Vz hB
     refine ⟨_,.nx,[some (.sc ns),some (.im (.int (0 + (i:Int)))),some (.ce C1.length),some (.im (.int (0 + (j:Int))))],C4,rfl,?_,.inl rfl,some (.im (.int (0 + (j:Int)))),rfl,Rf⟩
     simp_arith [e])
   subst he2
   refine ⟨_,.nx,[some (.sc ns),some (.im (.int (0 + (i:Int)))),some (.ce C1.length),v3'],C2,rfl,?_,.inl rfl,_,_,_,rfl⟩
   simp_arith [vJ,My,hb,intsOf,iz,tG,CG (m:=3) (by omega) (by omega)]
   exact e2)
 refine ⟨C'.take 0,?_⟩
 unfold yt fN
 rw [if_pos (show [Vl.sc ns].length=1 from rfl),show ([Vl.sc ns].map some++List.replicate (4 - [Vl.sc ns].length) none)=[some (.sc ns),none,none,none] from rfl]
 simp_arith [N7,iz,tG,sI,zB,hm,CG (m:=m) (by omega) (by omega),e,xQ]
theorem all_mk {l:PySem.W.OpenLaw} {w:World} {K:PySem.W.Frag} {h:Heap} {mg:Str→Option Value} {fa:Addr} (X:K.In h) (G:h.Ns mainGlobals mg) (hfa:mg "law"=some (.ref fa))
  {f0 f1 f2 f3 f4 f5 f6 f7 f8 f9 Z2 f11 Yr Ys Yt Yu Yv Yw Z3:Addr} {od0 an0 od1 an1 od2 an2 od3 an3 od4 an4 od5 an5 od6 an6 od7 an7 od8 an8 od9 an9 Z4 Z5 Z6 Z7 Z8 Z9 aaa aab aac aad aae aaf aag aah aai aaj aak Xz:Option Addr} {sl0 sl1 sl2 sl3 sl4 sl5 sl6 sl7 sl8 sl9 aal aam aan aao aap aaq aar aas aat:Array (Option Value)} {oc0 kV0 dc0 pm0 cd0 ct0 oc1 kV1 dc1 pm1 cd1 ct1 oc2 kV2 dc2 pm2 cd2 ct2 oc3 kV3 dc3 pm3 cd3 ct3 oc4 kV4 dc4 pm4 cd4 ct4 oc5 kV5 dc5 pm5 cd5 ct5 oc6 kV6 dc6 pm6 cd6 ct6 oc7 kV7 dc7 pm7 cd7 ct7 oc8 kV8 dc8 pm8 cd8 ct8 oc9 kV9 dc9 pm9 cd9 ct9 aau aav aaw aax XC aay aaz aaA aaB aaC XD aaD aaE aaF aaG aaH XF aaI aaJ aaK aaL aaM XH aaN aaO aaP aaQ aaR XJ aaS aaT aaU aaV aaW XM aaX aaY aaZ aa0 aa1 XN aa2 aa3 aa4 aa5 aa6 XQ aa7 aa8 XR XS XX VB X3:Value}
  (a0:PySem.W.nsIn K mainGlobals "parts_over"=some (some (.ref f0))) (l0:K.lookup f0=some ⟨oc0,od0,.func (PySem.W.fnOf "parts_over" "parts_over" (bR cW) (bH cW) (aD cW) .none kV0 dc0 pm0 an0 cd0 ct0),sl0⟩) (c0:PySem.W.codeIn K cd0 "parts_over"=true) (k0:PySem.W.keepIn K (.ref f0)=true)
  (a1:PySem.W.nsIn K mainGlobals "row_of"=some (some (.ref f1))) (l1:K.lookup f1=some ⟨oc1,od1,.func (PySem.W.fnOf "row_of" "row_of" (bR j5) (bH j5) (aD j5) .none kV1 dc1 pm1 an1 cd1 ct1),sl1⟩) (c1:PySem.W.codeIn K cd1 "row_of"=true) (k1:PySem.W.keepIn K (.ref f1)=true)
  (a2:PySem.W.nsIn K mainGlobals "is_side"=some (some (.ref f2))) (l2:K.lookup f2=some ⟨oc2,od2,.func (PySem.W.fnOf "is_side" "is_side" (bR iH) (bH iH) (aD iH) .none kV2 dc2 pm2 an2 cd2 ct2),sl2⟩) (c2:PySem.W.codeIn K cd2 "is_side"=true) (k2:PySem.W.keepIn K (.ref f2)=true)
  (a3:PySem.W.nsIn K mainGlobals "ways_on"=some (some (.ref f3))) (l3:K.lookup f3=some ⟨oc3,od3,.func (PySem.W.fnOf "ways_on" "ways_on" (bR gr) (bH gr) (aD gr) .none kV3 dc3 pm3 an3 cd3 ct3),sl3⟩) (c3:PySem.W.codeIn K cd3 "ways_on"=true) (k3:PySem.W.keepIn K (.ref f3)=true)
  (a4:PySem.W.nsIn K mainGlobals "first_row"=some (some (.ref f4))) (l4:K.lookup f4=some ⟨oc4,od4,.func (PySem.W.fnOf "first_row" "first_row" (bR fJ) (bH fJ) (aD fJ) .none kV4 dc4 pm4 an4 cd4 ct4),sl4⟩) (c4:PySem.W.codeIn K cd4 "first_row"=true) (k4:PySem.W.keepIn K (.ref f4)=true)
  (a5:PySem.W.nsIn K mainGlobals "nearer_way"=some (some (.ref f5))) (l5:K.lookup f5=some ⟨oc5,od5,.func (PySem.W.fnOf "nearer_way" "nearer_way" (bR cX) (bH cX) (aD cX) .none kV5 dc5 pm5 an5 cd5 ct5),sl5⟩) (c5:PySem.W.codeIn K cd5 "nearer_way"=true) (k5:PySem.W.keepIn K (.ref f5)=true)
  (a6:PySem.W.nsIn K mainGlobals "steps_to"=some (some (.ref f6))) (l6:K.lookup f6=some ⟨oc6,od6,.func (PySem.W.fnOf "steps_to" "steps_to" (bR fj) (bH fj) (aD fj) .none kV6 dc6 pm6 an6 cd6 ct6),sl6⟩) (c6:PySem.W.codeIn K cd6 "steps_to"=true) (k6:PySem.W.keepIn K (.ref f6)=true)
  (a7:PySem.W.nsIn K mainGlobals "_law_mix"=some (some (.ref f7))) (l7:K.lookup f7=some ⟨oc7,od7,.func (PySem.W.fnOf "_law_mix" "_law_mix" (bR rO) (bH rO) (aD rO) .none kV7 dc7 pm7 an7 cd7 ct7),sl7⟩) (c7:PySem.W.codeIn K cd7 "_law_mix"=true) (k7:PySem.W.keepIn K (.ref f7)=true)
  (a8:PySem.W.nsIn K mainGlobals "_law_drawn_from"=some (some (.ref f8))) (l8:K.lookup f8=some ⟨oc8,od8,.func (PySem.W.fnOf "_law_drawn_from" "_law_drawn_from" (bR dj) (bH dj) (aD dj) .none kV8 dc8 pm8 an8 cd8 ct8),sl8⟩) (c8:PySem.W.codeIn K cd8 "_law_drawn_from"=true) (k8:PySem.W.keepIn K (.ref f8)=true)
  (a9:PySem.W.nsIn K mainGlobals "_law_pick"=some (some (.ref f9))) (l9:K.lookup f9=some ⟨oc9,od9,.func (PySem.W.fnOf "_law_pick" "_law_pick" (bR ou) (bH ou) (aD ou) .none kV9 dc9 pm9 an9 cd9 ct9),sl9⟩) (c9:PySem.W.codeIn K cd9 "_law_pick"=true) (k9:PySem.W.keepIn K (.ref f9)=true)
  (a10:PySem.W.nsIn K mainGlobals "_law_same"=some (some (.ref Z2))) (l10:K.lookup Z2=some ⟨aau,Z4,.func (PySem.W.fnOf "_law_same" "_law_same" (bR jw) (bH jw) (aD jw) .none aav aaw aax Z5 XC aay),aal⟩) (c10:PySem.W.codeIn K XC "_law_same"=true) (k10:PySem.W.keepIn K (.ref Z2)=true)
  (a11:PySem.W.nsIn K mainGlobals "_law_some_names"=some (some (.ref f11))) (l11:K.lookup f11=some ⟨aaz,Z6,.func (PySem.W.fnOf "_law_some_names" "_law_some_names" (bR bO) (bH bO) (aD bO) .none aaA aaB aaC Z7 XD aaD),aam⟩) (c11:PySem.W.codeIn K XD "_law_some_names"=true) (k11:PySem.W.keepIn K (.ref f11)=true)
  (a12:PySem.W.nsIn K mainGlobals "_law_some_parts"=some (some (.ref Yr))) (l12:K.lookup Yr=some ⟨aaE,Z8,.func (PySem.W.fnOf "_law_some_parts" "_law_some_parts" (bR dm) (bH dm) (aD dm) .none aaF aaG aaH Z9 XF aaI),aan⟩) (c12:PySem.W.codeIn K XF "_law_some_parts"=true) (k12:PySem.W.keepIn K (.ref Yr)=true)
  (a13:PySem.W.nsIn K mainGlobals "_law_parts_over"=some (some (.ref Ys))) (l13:K.lookup Ys=some ⟨aaJ,aaa,.func (PySem.W.fnOf "_law_parts_over" "_law_parts_over" (bR dw) (bH dw) (aD dw) .none aaK aaL aaM aab XH aaN),aao⟩) (c13:PySem.W.codeIn K XH "_law_parts_over"=true) (k13:PySem.W.keepIn K (.ref Ys)=true)
  (a14:PySem.W.nsIn K mainGlobals "_law_rising"=some (some (.ref Yt))) (l14:K.lookup Yt=some ⟨aaO,aac,.func (PySem.W.fnOf "_law_rising" "_law_rising" (bR iI) (bH iI) (aD iI) .none aaP aaQ aaR aad XJ aaS),aap⟩) (c14:PySem.W.codeIn K XJ "_law_rising"=true) (k14:PySem.W.keepIn K (.ref Yt)=true)
  (a15:PySem.W.nsIn K mainGlobals "_law_house_of"=some (some (.ref Yu))) (l15:K.lookup Yu=some ⟨aaT,aae,.func (PySem.W.fnOf "_law_house_of" "_law_house_of" (bR fK) (bH fK) (aD fK) .none aaU aaV aaW aaf XM aaX),aaq⟩) (c15:PySem.W.codeIn K XM "_law_house_of"=true) (Yx:PySem.W.keepIn K (.ref Yu)=true)
  (a16:PySem.W.nsIn K mainGlobals "_law_lets"=some (some (.ref Yv))) (Kd:K.lookup Yv=some ⟨aaY,aag,.func (PySem.W.fnOf "_law_lets" "_law_lets" (bR oA) (bH oA) (aD oA) .none aaZ aa0 aa1 aah XN aa2),aar⟩) (c16:PySem.W.codeIn K XN "_law_lets"=true) (Yy:PySem.W.keepIn K (.ref Yv)=true)
  (a17:PySem.W.nsIn K mainGlobals "_law_one_right"=some (some (.ref Yw))) (l17:K.lookup Yw=some ⟨aa3,aai,.func (PySem.W.fnOf "_law_one_right" "_law_one_right" (bR cY) (bH cY) (aD cY) .none aa4 aa5 aa6 aaj XQ aa7),aas⟩) (c17:PySem.W.codeIn K XQ "_law_one_right"=true) (Yz:PySem.W.keepIn K (.ref Yw)=true)
  (a18:PySem.W.nsIn K mainGlobals "law"=some (some (.ref Z3))) (l18:K.lookup Z3=some ⟨aa8,aak,.func (PySem.W.fnOf "law" "law" (bR qP) (bH qP) (aD qP) .none XR XS XX Xz VB X3),aat⟩) (c18:PySem.W.codeIn K VB "law"=true) (k18:PySem.W.keepIn K (.ref Z3)=true)
  (yq:PySem.W.nsIn K mainGlobals "abs"=some none)
  (Dd:PySem.W.nsIn K mainGlobals "all"=some none)
  (pM:PySem.W.nsIn K mainGlobals "bool"=some none)
  (gM:PySem.W.nsIn K mainGlobals "enumerate"=some none)
  (vH:PySem.W.nsIn K mainGlobals "int"=some none)
  (aW:PySem.W.nsIn K mainGlobals "isinstance"=some none)
  (oZ:PySem.W.nsIn K mainGlobals "len"=some none)
  (pN:PySem.W.nsIn K mainGlobals "list"=some none)
  (yr:PySem.W.nsIn K mainGlobals "min"=some none)
  (dD:PySem.W.nsIn K mainGlobals "range"=some none)
  (j6:PySem.W.nsIn K mainGlobals "sorted"=some none)
  (qQ:PySem.W.nsIn K mainGlobals "str"=some none)
  (iC:PySem.W.nsIn K mainGlobals "tuple"=some none)
  (De:PySem.W.nsIn K mainGlobals "zip"=some none)
  :∃fd:FuncData,(∀(s:Shared) (v:Value),BindsTo s fd ⟨[v],[]⟩ [("_law_script",v)])∧∀base:Heap,K.In base→base.Ns mainGlobals mg→dG l.prog w K mg base qb 5 fa fd ["_law_script"] (spT K yt):=by
 have e:=hfa.symm.trans (PySem.W.mg_of X G a18)
 cases e
 have T:Txt K mg:=⟨PySem.W.mg_none_of X G yq,PySem.W.mg_none_of X G Dd,PySem.W.mg_none_of X G pM,PySem.W.mg_none_of X G gM,PySem.W.mg_none_of X G vH,PySem.W.mg_none_of X G aW,PySem.W.mg_none_of X G oZ,PySem.W.mg_none_of X G pN,PySem.W.mg_none_of X G yr,PySem.W.mg_none_of X G dD,PySem.W.mg_none_of X G j6,PySem.W.mg_none_of X G qQ,PySem.W.mg_none_of X G iC,PySem.W.mg_none_of X G De⟩
 have F0:=cV (st:=cW) l0 c0 k0
 have F1:=cV (st:=j5) l1 c1 k1
 have F2:=cV (st:=iH) l2 c2 k2
 have F3:=cV (st:=gr) l3 c3 k3
 have F4:=cV (st:=fJ) l4 c4 k4
 have F5:=cV (st:=cX) l5 c5 k5
 have F6:=cV (st:=fj) l6 c6 k6
 have F7:=cV (st:=rO) l7 c7 k7
 have F8:=cV (st:=dj) l8 c8 k8
 have F9:=cV (st:=ou) l9 c9 k9
 have F10:=cV (st:=jw) l10 c10 k10
 have F11:=cV (st:=bO) l11 c11 k11
 have F12:=cV (st:=dm) l12 c12 k12
 have F13:=cV (st:=dw) l13 c13 k13
 have F14:=cV (st:=iI) l14 c14 k14
 have F15:=cV (st:=fK) l15 c15 Yx
 have F16:=cV (st:=oA) Kd c16 Yy
 have F17:=cV (st:=cY) l17 c17 Yz
 have F18:=cV (st:=qP) l18 c18 k18
 refine ⟨PySem.W.fnOf "law" "law" (bR qP) (bH qP) (aD qP) .none XR XS XX Xz VB X3,fun s v=>.of_eq rfl,fun base _ _=>?_⟩
 have Aa:=wI (P:=l.prog) (w:=w) (mg:=mg) (base:=base) F0 T
 have lM:jl l.prog w K mg base "parts_over" 1 (["house","part"]:List Str) (spT K gb):=⟨f0,_,PySem.W.mg_of X G a0,k0,(F0.binds (ps:=(["house","part"]:List Str)) (fun _ _ _ _ _ _ us hl=>match us,hl with | [_,_],_=>rfl)),Aa⟩
 have J8:=Gg (P:=l.prog) (w:=w) (mg:=mg) (base:=base) F2 T
 have fL:jl l.prog w K mg base "is_side" 1 (["paper","person"]:List Str) (spT K dO):=⟨f2,_,PySem.W.mg_of X G a2,k2,(F2.binds (ps:=(["paper","person"]:List Str)) (fun _ _ _ _ _ _ us hl=>match us,hl with | [_,_],_=>rfl)),J8⟩
 have J9:=Gh (P:=l.prog) (w:=w) (mg:=mg) (base:=base) F3 T lM fL
 have rU:jl l.prog w K mg base "ways_on" 2 (["house","paper","day"]:List Str) (spT K iJ):=⟨f3,_,PySem.W.mg_of X G a3,k3,(F3.binds (ps:=(["house","paper","day"]:List Str)) (fun _ _ _ _ _ _ us hl=>match us,hl with | [_,_,_],_=>rfl)),J9⟩
 have Gm:=Dg (P:=l.prog) (w:=w) (mg:=mg) (base:=base) F6 T
 have pP:jl l.prog w K mg base "steps_to" 1 (["ways","signer"]:List Str) (spT K je):=⟨f6,_,PySem.W.mg_of X G a6,k6,(F6.binds (ps:=(["ways","signer"]:List Str)) (fun _ _ _ _ _ _ us hl=>match us,hl with | [_,_],_=>rfl)),Gm⟩
 have Ab:=wJ (P:=l.prog) (w:=w) (mg:=mg) (base:=base) F5 T
 have lN:jl l.prog w K mg base "nearer_way" 1 (["ways","steps","person"]:List Str) (spT K gf):=⟨f5,_,PySem.W.mg_of X G a5,k5,(F5.binds (ps:=(["ways","steps","person"]:List Str)) (fun _ _ _ _ _ _ us hl=>match us,hl with | [_,_,_],_=>rfl)),Ab⟩
 have Dp:=zV (P:=l.prog) (w:=w) (mg:=mg) (base:=base) F4 T pP lN
 have nJ:jl l.prog w K mg base "first_row" 2 (["ways","holder","signer"]:List Str) (spT K gO):=⟨f4,_,PySem.W.mg_of X G a4,k4,(F4.binds (ps:=(["ways","holder","signer"]:List Str)) (fun _ _ _ _ _ _ us hl=>match us,hl with | [_,_,_],_=>rfl)),Dp⟩
 have Ow:=J0 (P:=l.prog) (w:=w) (mg:=mg) (base:=base) F1 T fL rU nJ
 have qT:jl l.prog w K mg base "row_of" 3 (["house","paper","holder","signer","day"]:List Str) (spT K j7):=⟨f1,_,PySem.W.mg_of X G a1,k1,(F1.binds (ps:=(["house","paper","holder","signer","day"]:List Str)) (fun _ _ _ _ _ _ us hl=>match us,hl with | [_,_,_,_,_],_=>rfl)),Ow⟩
 have VD:=Rb (P:=l.prog) (w:=w) (mg:=mg) (base:=base) F7 T
 have zW:jl l.prog w K mg base "_law_mix" 1 (["_law_cell","_law_k"]:List Str) (spT K rR):=⟨f7,_,PySem.W.mg_of X G a7,k7,(F7.binds (ps:=(["_law_cell","_law_k"]:List Str)) (fun _ _ _ _ _ _ us hl=>match us,hl with | [_,_],_=>rfl)),VD⟩
 have wM:=vK (P:=l.prog) (w:=w) (mg:=mg) (base:=base) F8 T
 have jO:jl l.prog w K mg base "_law_drawn_from" 1 (["_law_script","_law_k"]:List Str) (spT K d9):=⟨f8,_,PySem.W.mg_of X G a8,k8,(F8.binds (ps:=(["_law_script","_law_k"]:List Str)) (fun _ _ _ _ _ _ us hl=>match us,hl with | [_,_],_=>rfl)),wM⟩
 have Ru:=N8 (P:=l.prog) (w:=w) (mg:=mg) (base:=base) F9 T zW
 have bf:jl l.prog w K mg base "_law_pick" 2 (["_law_left","_law_many"]:List Str) (spT K aN):=⟨f9,_,PySem.W.mg_of X G a9,k9,(F9.binds (ps:=(["_law_left","_law_many"]:List Str)) (fun _ _ _ _ _ _ us hl=>match us,hl with | [_,_],_=>rfl)),Ru⟩
 have oF:jl l.prog w K mg base "_law_same" 3 (["_law_found","_law_due"]:List Str) (spT K (dF 3)):=yu (PySem.W.mg_of X G a10) k10 (F10.binds (ps:=(["_law_found","_law_due"]:List Str)) (fun _ _ _ _ _ _ us hl=>match us,hl with | [_,_],_=>rfl)) F10 T 3
 have wN:=vL (P:=l.prog) (w:=w) (mg:=mg) (base:=base) F11 T bf
 have jM:jl l.prog w K mg base "_law_some_names" 3 (["_law_left","_law_many"]:List Str) (spT K eF):=⟨f11,_,PySem.W.mg_of X G a11,k11,(F11.binds (ps:=(["_law_left","_law_many"]:List Str)) (fun _ _ _ _ _ _ us hl=>match us,hl with | [_,_],_=>rfl)),wN⟩
 have wO:=vM (P:=l.prog) (w:=w) (mg:=mg) (base:=base) F12 T bf
 have jN:jl l.prog w K mg base "_law_some_parts" 3 (["_law_left","_law_names"]:List Str) (spT K eG):=⟨Yr,_,PySem.W.mg_of X G a12,k12,(F12.binds (ps:=(["_law_left","_law_names"]:List Str)) (fun _ _ _ _ _ _ us hl=>match us,hl with | [_,_],_=>rfl)),wO⟩
 have wQ:=vN (P:=l.prog) (w:=w) (mg:=mg) (base:=base) F13 T
 have jL:jl l.prog w K mg base "_law_parts_over" 1 (["_law_parts","_law_part"]:List Str) (spT K eN):=⟨Ys,_,PySem.W.mg_of X G a13,k13,(F13.binds (ps:=(["_law_parts","_law_part"]:List Str)) (fun _ _ _ _ _ _ us hl=>match us,hl with | [_,_],_=>rfl)),wQ⟩
 have Ka:=Gi (P:=l.prog) (w:=w) (mg:=mg) (base:=base) F14 T bf
 have rW:jl l.prog w K mg base "_law_rising" 3 (["_law_left","_law_many"]:List Str) (spT K kj):=⟨Yt,_,PySem.W.mg_of X G a14,k14,(F14.binds (ps:=(["_law_left","_law_many"]:List Str)) (fun _ _ _ _ _ _ us hl=>match us,hl with | [_,_],_=>rfl)),Ka⟩
 have Dq:=zX (P:=l.prog) (w:=w) (mg:=mg) (base:=base) F15 T
 have nM:jl l.prog w K mg base "_law_house_of" 1 (["_law_parts","_law_leaves"]:List Str) (spT K gP):=⟨Yu,_,PySem.W.mg_of X G a15,Yx,(F15.binds (ps:=(["_law_parts","_law_leaves"]:List Str)) (fun _ _ _ _ _ _ us hl=>match us,hl with | [_,_],_=>rfl)),Dq⟩
 have Rv:=Ob (P:=l.prog) (w:=w) (mg:=mg) (base:=base) F16 T jL
 have zY:jl l.prog w K mg base "_law_lets" 2 (["_law_parts","_law_paper","_law_day","_law_leave"]:List Str) (spT K qR):=⟨Yv,_,PySem.W.mg_of X G a16,Yy,(F16.binds (ps:=(["_law_parts","_law_paper","_law_day","_law_leave"]:List Str)) (fun _ _ _ _ _ _ us hl=>match us,hl with | [_,_,_,_],_=>rfl)),Rv⟩
 have Ac:=wK (P:=l.prog) (w:=w) (mg:=mg) (base:=base) F17 T qT bf oF jM jN rW nM zY
 have lO:jl l.prog w K mg base "_law_one_right" 4 (["_law_left"]:List Str) (spT K gh):=⟨Yw,_,PySem.W.mg_of X G a17,Yz,(F17.binds (ps:=(["_law_left"]:List Str)) (fun _ _ _ _ _ _ us hl=>match us,hl with | [_],_=>rfl)),Ac⟩
 have o_law:=Vq (P:=l.prog) (w:=w) (mg:=mg) (base:=base) F18 T jO lO
 exact o_law
theorem walk {l:PySem.W.OpenLaw} {q:Program} {loose:List Str} {XP:(Str→Option Value)→Heap→Prop} {YP:World→Heap→Prop} {d:DefRec} {K:Params→PySem.W.Frag} (hn:l.most=some 63) (hdf:d.params.defaults=[])
  (hY:∀(w:World) (h:Heap),YP w h→(K w.params).In h)
  (F:∀(w:World) (mg:Str→Option Value) (fa:Addr) (h:Heap),(K w.params).In h→h.Ns mainGlobals mg→mg d.name=some (.ref fa)→
   ∃fd:FuncData,(∀(s:Shared) (u:Value),BindsTo s fd ⟨[u],[]⟩ [("_law_script",u)])∧∀base:Heap,(K w.params).In base→base.Ns mainGlobals mg→dG l.prog w (K w.params) mg base qb 5 fa fd ["_law_script"] (spT (K w.params) yt)):
  PySem.W.WalkO q loose XP YP l.row.toRowW d [] (fun f vs=>PySem.call f vs):=
 L2.PN (n:=63) (k:=5) (x:="_law_script") (CX:=fun _=>qb) (sp:=fun w=>spT (K w.params) yt) hn (by decide) hdf ⟨rfl,by decide,by decide,rfl⟩ hY F (fun _ _ a ns hl _ hS=>let ⟨_,h⟩:=Ov ns hl; U6 hS h) fun _ _ _ _ _ z=>z
end ZS
open PySem PySem.W PyProof.Rows
set_option maxRecDepth 100000 in
set_option maxHeartbeats 0 in
theorem PySem.Challenge.cw_rankseals_k13_leaves_that_let_one_step_holds : PySem.Challenge.rw_rankseals_k13_leaves_that_let_one_step.Holds := by
 w_on; o_law; k_head; (case hw=>w_witness2)
 k_fill
 refine ZS.walk (l:=PySem.Challenge.rw_rankseals_k13_leaves_that_let_one_step) rfl rfl (fun w h Y=>PySem.W.kIn_of Y) ?F
 case F=>
  intro w mg fa h KX G hmg
  refine' ZS.all_mk KX G hmg ?a0 ?l0 ?c0 ?k0 ?a1 ?l1 ?c1 ?k1 ?a2 ?l2 ?c2 ?k2 ?a3 ?l3 ?c3 ?k3 ?a4 ?l4 ?c4 ?k4 ?a5 ?l5 ?c5 ?k5 ?a6 ?l6 ?c6 ?k6 ?a7 ?l7 ?c7 ?k7 ?a8 ?l8 ?c8 ?k8 ?a9 ?l9 ?c9 ?k9 ?a10 ?l10 ?c10 ?k10 ?a11 ?l11 ?c11 ?k11 ?a12 ?l12 ?c12 ?k12 ?a13 ?l13 ?c13 ?k13 ?a14 ?l14 ?c14 ?k14 ?a15 ?l15 ?c15 ?Yx ?a16 ?Kd ?c16 ?Yy ?a17 ?l17 ?c17 ?Yz ?a18 ?l18 ?c18 ?k18 ?yq ?Dd ?pM ?gM ?vH ?aW ?oZ ?pN ?yr ?dD ?j6 ?qQ ?iC ?De
  (case a0=>k_is)
  (case l0=>k_is)
  (case c0=>k_is)
  (case k0=>k_is)
  (case a1=>k_is)
  (case l1=>k_is)
  (case c1=>k_is)
  (case k1=>k_is)
  (case a2=>k_is)
  (case l2=>k_is)
  (case c2=>k_is)
  (case k2=>k_is)
  (case a3=>k_is)
  (case l3=>k_is)
  (case c3=>k_is)
  (case k3=>k_is)
  (case a4=>k_is)
  (case l4=>k_is)
  (case c4=>k_is)
  (case k4=>k_is)
  (case a5=>k_is)
  (case l5=>k_is)
  (case c5=>k_is)
  (case k5=>k_is)
  (case a6=>k_is)
  (case l6=>k_is)
  (case c6=>k_is)
  (case k6=>k_is)
  (case a7=>k_is)
  (case l7=>k_is)
  (case c7=>k_is)
  (case k7=>k_is)
  (case a8=>k_is)
  (case l8=>k_is)
  (case c8=>k_is)
  (case k8=>k_is)
  (case a9=>k_is)
  (case l9=>k_is)
  (case c9=>k_is)
  (case k9=>k_is)
  (case a10=>k_is)
  (case l10=>k_is)
  (case c10=>k_is)
  (case k10=>k_is)
  (case a11=>k_is)
  (case l11=>k_is)
  (case c11=>k_is)
  (case k11=>k_is)
  (case a12=>k_is)
  (case l12=>k_is)
  (case c12=>k_is)
  (case k12=>k_is)
  (case a13=>k_is)
  (case l13=>k_is)
  (case c13=>k_is)
  (case k13=>k_is)
  (case a14=>k_is)
  (case l14=>k_is)
  (case c14=>k_is)
  (case k14=>k_is)
  (case a15=>k_is)
  (case l15=>k_is)
  (case c15=>k_is)
  (case Yx=>k_is)
  (case a16=>k_is)
  (case Kd=>k_is)
  (case c16=>k_is)
  (case Yy=>k_is)
  (case a17=>k_is)
  (case l17=>k_is)
  (case c17=>k_is)
  (case Yz=>k_is)
  (case a18=>k_is)
  (case l18=>k_is)
  (case c18=>k_is)
  (case k18=>k_is)
  (case yq=>k_is)
  (case Dd=>k_is)
  (case pM=>k_is)
  (case gM=>k_is)
  (case vH=>k_is)
  (case aW=>k_is)
  (case oZ=>k_is)
  (case pN=>k_is)
  (case yr=>k_is)
  (case dD=>k_is)
  (case j6=>k_is)
  (case qQ=>k_is)
  (case iC=>k_is)
  (case De=>k_is)
