import PyProof.Rows.All
import Wide.All
import OpenK.AllK
import Wide.FinOn
import Lean
import PyProof.EqAt
import PyProof.EqKinds
import PyProof.TupleCall
import PySem.Challenge.RW_rankseals_k06_holders_of_ranks
set_option Elab.async false
set_option linter.all false
set_option maxRecDepth 100000
set_option maxHeartbeats 4000000
namespace L2
open PySem PySem.Spec PyProof.Rows
noncomputable abbrev Key:=Sum Int Str
noncomputable def wG:Key→Value→Bool
 | .inl k,v=>Value.isInt k v
 | .inr x,v=>Value.isStrOf x v
noncomputable def Yi (w:World):Key→Int
 | .inl k=>hashInt k
 | .inr x=>hashStr w x
theorem cD:∀{k:Key} {v:Value},wG k v=true→(∃i t,k=Sum.inl i∧v=Value.int i t)∨(∃x t,k=Sum.inr x∧v=Value.str x t)
 | .inl i,v,h=>by
  obtain ⟨t,e⟩:=Value.isInt_shape (k:=i) (v:=v) h
  exact .inl ⟨i,t,rfl,e⟩
 | .inr x,v,h=>by
  obtain ⟨t,e⟩:=Value.isStrOf_shape (x:=x) (v:=v) h
  exact .inr ⟨x,t,rfl,e⟩
theorem Ht (i:Int) (t:Tok):wG (.inl i) (.int i t)=true:=by simp [wG,Value.isInt]
theorem Hu (x:Str) (t:Tok):wG (.inr x) (.str x t)=true:=by simp [wG,Value.isStrOf]
theorem Sw (a b:Int):decide ((Sum.inl a:Key)=Sum.inl b)=(a==b):=by
 by_cases e:a=b
 ·subst e; simp
 ·have h:¬(Sum.inl a:Key)=Sum.inl b:=fun q=>e (Sum.inl.inj q)
  rw [decide_eq_false h]
  exact (beq_eq_false_iff_ne.mpr e).symm
theorem Sx (a b:Str):decide ((Sum.inr a:Key)=Sum.inr b)=decide (a=b):=by
 by_cases e:a=b
 ·subst e; simp
 ·have h:¬(Sum.inr a:Key)=Sum.inr b:=fun q=>e (Sum.inr.inj q)
  rw [decide_eq_false h,decide_eq_false e]
theorem Sy (a:Int) (b:Str):decide ((Sum.inl a:Key)=Sum.inr b)=false:=decide_eq_false (fun q=>nomatch q)
theorem SJ (a:Str) (b:Int):decide ((Sum.inr a:Key)=Sum.inl b)=false:=decide_eq_false (fun q=>nomatch q)
noncomputable def cL (prog:Program) (w:World):PySem.KeyKind prog w Key where
 is:=wG
 hash:=Yi w
 inj:=fun v a b ha hb=>by
  rcases cD ha with ⟨i,t,rfl,rfl⟩ | ⟨x,t,rfl,rfl⟩
  ·rcases cD hb with ⟨j,u,rfl,e⟩ | ⟨y,u,rfl,e⟩
   ·injection e with e1 _; rw [e1]
   ·exact nomatch e
  ·rcases cD hb with ⟨j,u,rfl,e⟩ | ⟨y,u,rfl,e⟩
   ·exact nomatch e
   ·injection e with e1 _; rw [e1]
 byValue:=fun k v h=>by
  rcases cD h with ⟨i,t,rfl,rfl⟩ | ⟨x,t,rfl,rfl⟩ <;> rfl
 pyHash:=fun hv h=>by
  rcases cD hv with ⟨i,t,rfl,rfl⟩ | ⟨x,t,rfl,rfl⟩
  ·exact wpAny_pyHash_int h
  ·exact wpAny_pyHash_str h
 eqBool:=fun hu hv h=>by
  rcases cD hu with ⟨i,t,rfl,rfl⟩ | ⟨x,t,rfl,rfl⟩
  ·rcases cD hv with ⟨j,u,rfl,rfl⟩ | ⟨y,u,rfl,rfl⟩
   ·rw [Sw] at h; exact wpAny_eqBool_int h
   ·rw [Sy] at h; exact SeqAt.EqAt.int_str i t y u _ _ _ _ h
  ·rcases cD hv with ⟨j,u,rfl,rfl⟩ | ⟨y,u,rfl,rfl⟩
   ·rw [SJ] at h; exact SeqAt.EqAt.str_int x t j u _ _ _ _ h
   ·rw [Sx] at h; exact wpAny_eqBool_str h
 «strs»:=fun k x t v h=>by
  rcases cD h with ⟨i,u,rfl,e⟩ | ⟨y,u,rfl,e⟩
  ·exact nomatch e
  ·injection e with e1 _
   subst e1
   cases v <;> rfl
theorem zT (prog:Program) (w:World) (i:Int) (t:Tok):(cL prog w).is (.inl i) (.int i t)=true:=Ht i t
theorem zU (prog:Program) (w:World) (x:Str) (t:Tok):(cL prog w).is (.inr x) (.str x t)=true:=Hu x t
end L2
namespace L2
open PySem PySem.Spec PyProof.Rows
inductive V where
 | non | bl (b:Bool) | int (i:Int) | str (x:Str) | Hv (b:Array UInt8) | flt (b:UInt64) | ref (a:Addr) | ty (n:String)
 deriving DecidableEq
noncomputable def RelV:V→Value→Prop
 | .non,u=>u=Value.none
 | .bl b,u=>u=Value.bool b
 | .int i,u=>∃t,u=Value.int i t
 | .str x,u=>∃t,u=Value.str x t
 | .Hv b,u=>∃t,u=Value.bytes b t
 | .flt b,u=>∃t,u=Value.float b t
 | .ref a,u=>u=Value.ref a
 | .ty n,u=>u=Value.type n
noncomputable abbrev Vals:List V→List Value→Prop:=Paired RelV
theorem Vals.length {xs:List V} {us:List Value} (r:Vals xs us):xs.length=us.length:=Paired.length r
theorem Vals.get:∀{xs:List V} {us:List Value} {i:Nat} {x:V},Vals xs us→xs[i]?=some x→∃u,us[i]?=some u∧RelV x u
 | _,_,_,_,.nil,e=>by simp at e
 | _,_,0,_,.cons r _,e=>by simp at e; subst e; exact ⟨_,rfl,r⟩
 | _,_,i + 1,x,.cons _ t,e=>by
  obtain ⟨u,h1,h2⟩:=Vals.get (i:=i) (x:=x) t (by simpa using e)
  exact ⟨u,by simpa using h1,h2⟩
theorem Vals.set {x:V} {u:Value} (r:RelV x u):∀{xs:List V} {us:List Value} (i:Nat),Vals xs us→Vals (xs.set i x) (us.set i u)
 | _,_,_,.nil=>.nil
 | _,_,0,.cons _ t=>.cons r t
 | _,_,i + 1,.cons q t=>.cons q (Vals.set r i t)
theorem Vals.append:∀{xs ys:List V} {us ws:List Value},Vals xs us→Vals ys ws→Vals (xs++ys) (us++ws)
 | _,_,_,_,.nil,s=>s
 | _,_,_,_,.cons r t,s=>.cons r (Vals.append t s)
theorem Vals.take:∀{xs:List V} {us:List Value} (n:Nat),Vals xs us→Vals (xs.take n) (us.take n)
 | _,_,0,_=>.nil
 | _,_,_ + 1,.nil=>.nil
 | _,_,n + 1,.cons r t=>.cons r (Vals.take n t)
theorem Vals.drop:∀{xs:List V} {us:List Value} (n:Nat),Vals xs us→Vals (xs.drop n) (us.drop n)
 | _,_,0,r=>r
 | _,_,_ + 1,.nil=>.nil
 | _,_,n + 1,.cons _ t=>Vals.drop n t
noncomputable def p7:Option V→Option Value→Prop
 | some v,some u=>RelV v u
 | none,none=>True
 | _,_=>False
noncomputable def KV {κ:Type}:List (κ×V)→List (κ×Value)→Prop:=Paired fun (p:κ×V) (q:κ×Value)=>p.1=q.1∧RelV p.2 q.2
noncomputable def kV:Key→V
 | .inl i=>.int i
 | .inr x=>.str x
inductive HO where
 | lst (xs:List V)
 | tup (xs:List V)
 | dK (kvs:List (Key×V)) | dT (kvs:List (List Key×V))
 | set (S:Int→Bool) (n:Nat)
 | ins (C dx:Addr) (fs:List (Str×V))
 | own (x:Addr)
 | xd (fs:List (Str×V))
 | met (f x:Addr)
 | Yj (lo hi:Int)
 | zP (o:Obj) (u:HO)
 | SM (ps:Array Value)
 | ext (φ:Heap→Prop)
noncomputable abbrev Hp:=Addr→Option HO
noncomputable def upd (H:Hp) (a:Addr) (o:HO):Hp:=fun b=>if b=a then some o else H b
theorem aK {H:Hp} {a:Addr} {o:HO}:upd H a o a=some o:=by unfold upd; rw [if_pos rfl]
theorem aO {H:Hp} {a b:Addr} {o:HO} (h:b≠a):upd H a o b=H b:=by unfold upd; rw [if_neg h]
theorem Ex {H:Hp} {a:Addr} {o u:HO}:upd (upd H a o) a u=upd H a u:=by
 funext b; unfold upd; split <;> rfl
theorem JL {H:Hp} {a b:Addr} {o u:HO} (h:H a=some o) (h':H b=some u) (d:o≠u):a≠b:=by
 intro e; subst e; rw [h] at h'; exact d (Option.some.inj h')
theorem bC {H:Hp} {a b:Addr} {o:HO} (h:H a=some o) (h':H b=none):a≠b:=by
 intro e; subst e; rw [h] at h'; cases h'
section
variable (P:Program) (w:World)
noncomputable def bV (H:Hp) (h:Heap) (a:Addr):HO→Prop
 | .lst xs=>xs.length≤sizeLine∧∃(its:List Value) (n:Nat),Vals xs its∧h.get? a=some { cls:=.type "list",data:=.seq its.toArray n }
 | .tup xs=>xs.length≤sizeLine∧∃its:List Value,Vals xs its∧IsTup h a its.toArray
 | .dK kvs=>kvs.length≤sizeLine∧(a==sysModules)=false∧∃vs,KV kvs vs∧h.DictOf (cL P w) a vs
 | .dT kvs=>kvs.length≤sizeLine∧(a==sysModules)=false∧∃xs:List (List Key×Addr×Value),
   Paired (fun (p:List Key×V) (q:List Key×Addr×Value)=>p.1=q.1∧H q.2.1=some (.tup (p.1.map kV))∧RelV p.2 q.2.2) kvs xs∧
   ∃o es ep,h.get? a=some o∧o.ExactDict∧o.data=.dict es ep∧es.toList=xs.map (entryOfKey (tupleKind (cL P w)))∧(xs.map (·.1)).Nodup
 | .set S n=>h.SetOf (intKind P w) a S n
 | .ins C dx fs=>H dx=some (.own a)∧fs.length≤1000∧dx≠a∧h.get? a=some (PySem.W.instObj C dx)∧
   ∃mA,h.Ns1 dx mA∧(∀f,p7 (fs.lookup f) (mA f))∧PySem.Within mA (fs.map (·.1))
 | .own _=>∃o,h.get? a=some o
 | .xd fs=>∃mA,h.Ns1 a mA∧∀f,p7 (fs.lookup f) (mA f)
 | .Yj lo hi=>∃t u v,h.get? a=some { cls:=.type "range",data:=.fields #[.int lo t,.int hi u,.int 1 v] }
 | .zP o u=>h.get? a=some o∧bV H h a u
 | .SM ps=>h.get? a=some { cls:=.none,data:=.fields ps }
 | .met f x=>h.get? a=some (PySem.W.methodObj (.ref f) (.ref x))
 | .ext φ=>φ h∧(∃o,h.get? a=some o)∧∀h1 h2:Heap,φ h1→(∀o,h1.get? a=some o→h2.get? a=some o)→φ h2
noncomputable def oE (H:Hp) (h:Heap):Prop:=∀a o,H a=some o→bV P w H h a o
end
section
variable {P:Program} {w:World} {H H':Hp} {h h':Heap} {a:Addr} {o:HO}
theorem bV.lt (x:bV P w H h a o):a < h.objs.size:=by
 cases o with
 | lst xs=>obtain ⟨_,_,_,_,e⟩:=x; exact Heap.lt_size e
 | tup xs=>obtain ⟨_,_,_,p⟩:=x; exact p.lt
 | dK kvs=>obtain ⟨_,_,_,_,o,_,_,e,_⟩:=x; exact Heap.lt_size e
 | dT kvs=>obtain ⟨_,_,_,_,o,_,_,e,_⟩:=x; exact Heap.lt_size e
 | set S n=>obtain ⟨o,_,_,_,e,_⟩:=x; exact Heap.lt_size e
 | ins C dx fs=>obtain ⟨_,_,_,e,_⟩:=x; exact Heap.lt_size e
 | own y=>obtain ⟨_,e⟩:=x; exact Heap.lt_size e
 | xd fs=>obtain ⟨_,⟨_,_,_,e,_⟩,_⟩:=x; exact Heap.lt_size e
 | Yj lo hi=>obtain ⟨_,_,_,e⟩:=x; exact Heap.lt_size e
 | zP ob u=>obtain ⟨e,_⟩:=x; exact Heap.lt_size e
 | SM ps=>exact Heap.lt_size (show h.get? a=some _ from x)
 | met f y=>exact Heap.lt_size (show h.get? a=some _ from x)
 | ext φ=>obtain ⟨_,⟨_,e⟩,_⟩:=x; exact Heap.lt_size e
theorem Paired.SN {α β:Type} {F G:α→β→Prop}:∀{l₁:List α} {l₂:List β},Paired F l₁ l₂→(∀a b,F a b→G a b)→Paired G l₁ l₂
 | _,_,.nil,_=>.nil
 | _,_,.cons r t,f=>.cons (f _ _ r) (Paired.SN t f)
theorem bV.stay (x:bV P w H h a o) (k:∀b u,(b=a∨H b=some (.own a))→h.get? b=some u→h'.get? b=some u)
  (ho:∀b,H b=some (.own a)→H' b=some (.own a)) (ht:∀b xs,H b=some (.tup xs)→H' b=some (.tup xs)):bV P w H' h' a o:=by
 induction o with
 | lst xs=>obtain ⟨z,its,n,r,e⟩:=x; exact ⟨z,its,n,r,k _ _ (.inl rfl) e⟩
 | tup xs=>obtain ⟨z,its,r,ob,e,c⟩:=x; exact ⟨z,its,r,ob,k _ _ (.inl rfl) e,c⟩
 | dK kvs=>obtain ⟨z,y,vs,r,ob,es,ep,e,c⟩:=x; exact ⟨z,y,vs,r,ob,es,ep,k _ _ (.inl rfl) e,c⟩
 | dT kvs=>
  obtain ⟨z,y,xs,r,ob,es,ep,e,c⟩:=x
  exact ⟨z,y,xs,Paired.SN r fun p q z=>⟨z.1,ht _ _ z.2.1,z.2.2⟩,ob,es,ep,k _ _ (.inl rfl) e,c⟩
 | set S n=>obtain ⟨ob,es,ep,t,e,c⟩:=x; exact ⟨ob,es,ep,t,k _ _ (.inl rfl) e,c⟩
 | ins C dx fs=>
  obtain ⟨d,z,ne,e,mA,⟨od,es,ep,e2,c⟩,r⟩:=x
  exact ⟨ho _ d,z,ne,k _ _ (.inl rfl) e,mA,⟨od,es,ep,k _ _ (.inr d) e2,c⟩,r⟩
 | own y=>obtain ⟨ob,e⟩:=x; exact ⟨ob,k _ _ (.inl rfl) e⟩
 | xd fs=>obtain ⟨mA,⟨od,es,ep,e,c⟩,r⟩:=x; exact ⟨mA,⟨od,es,ep,k _ _ (.inl rfl) e,c⟩,r⟩
 | Yj lo hi=>obtain ⟨t,u,v,e⟩:=x; exact ⟨t,u,v,k _ _ (.inl rfl) e⟩
 | zP ob u ih=>obtain ⟨e,q⟩:=x; exact ⟨k _ _ (.inl rfl) e,ih q⟩
 | SM ps=>
  have e:h.get? a=some { cls:=.none,data:=.fields ps }:=x
  show h'.get? a=some { cls:=.none,data:=.fields ps }
  exact k a _ (.inl rfl) e
 | met f y=>
  have e:h.get? a=some (PySem.W.methodObj (.ref f) (.ref y)):=x
  show h'.get? a=some (PySem.W.methodObj (.ref f) (.ref y))
  exact k a _ (.inl rfl) e
 | ext φ=>obtain ⟨p,⟨o,e⟩,st⟩:=x; exact ⟨st _ _ p fun o q=>k _ _ (.inl rfl) q,⟨o,k _ _ (.inl rfl) e⟩,st⟩
theorem oE.lt (x:oE P w H h) (e:H a=some o):a < h.objs.size:=(x a o e).lt
theorem oE.fresh (x:oE P w H h) (e:h.objs.size≤a):H a=none:=by
 cases q:H a with
 | none=>rfl
 | some u=>exact absurd (Nat.lt_of_lt_of_le (x.lt q) e) (Nat.lt_irrefl _)
theorem oE.kept (x:oE P w H h) (k:∀b u,h.get? b=some u→h'.get? b=some u):oE P w H h':=fun a o e=>
 (x a o e).stay (fun b u _ q=>k b u q) (fun _ q=>q) fun _ _ q=>q
theorem oE.laid (x:oE P w H h) (k:∀b u,h.get? b=some u→h'.get? b=some u) (hp:h.objs.size≤a) (new:bV P w (upd H a o) h' a o):oE P w (upd H a o) h':=fun b u e=>by
 have hn:=x.fresh hp
 by_cases hb:b=a
 ·subst hb; rw [aK] at e; cases e; exact new
 ·rw [aO hb] at e
  exact (x b u e).stay (fun c v _ q=>k c v q) (fun c q=>by rw [aO (bC q hn)]; exact q) fun c xs q=>by rw [aO (bC q hn)]; exact q
end
noncomputable def Rd (H:Hp) (a:Addr) (u:HO):Prop:=H a=some u∨∃o,H a=some (.zP o u)
theorem Rd.of {H:Hp} {a:Addr} {u:HO} (h:H a=some u):Rd H a u:=.inl h
theorem Rd.ok {P:Program} {w:World} {H:Hp} {h:Heap} {a:Addr} {u:HO} (r:Rd H a u) (x:oE P w H h):bV P w H h a u:=by
 rcases r with r | ⟨o,r⟩
 ·exact x a u r
 ·obtain ⟨_,q⟩:=x a _ r
  exact q
noncomputable def Vy:Option HO→Prop
 | some (.lst _)=>True
 | some (.dK _)=>True
 | some (.dT _)=>True
 | some (.set _ _)=>True
 | some (.ins _ _ _)=>True
 | some (.ext _)=>True
 | _=>False
section
variable {P:Program} {w:World} {H:Hp} {h h':Heap} {x e:Addr} {o':HO}
theorem oE.write (ok:oE P w H h) (mu:Vy (H x)) (he:e=x∨H e=some (.own x)) (k:∀b u,b≠e→h.get? b=some u→h'.get? b=some u) (heo:∃u,h'.get? e=some u)
  (new:bV P w (upd H x o') h' x o'):oE P w (upd H x o') h':=fun b u q=>by
 have Vz:∀c y,H c=some (.own y)→c≠x:=fun c y r z=>by subst z; rw [r] at mu; exact mu
 have Yk:∀c xs,H c=some (.tup xs)→c≠x:=fun c xs r z=>by subst z; rw [r] at mu; exact mu
 by_cases hb:b=x
 ·subst hb; rw [aK] at q; cases q; exact new
 ·rw [aO hb] at q
  by_cases hbe:b=e
  ·have q':H b=some (.own x):=by
    rcases he with z | z
    ·exact absurd (hbe.trans z) hb
    ·rw [hbe]; exact z
   rw [q] at q'; cases q'
   obtain ⟨v,hv⟩:=heo
   exact ⟨v,by rw [hbe]; exact hv⟩
  ·refine (ok b u q).stay (fun c v hc r=>k c v ?_ r) (fun c r=>by rw [aO (Vz c b r)]; exact r) fun c xs r=>by rw [aO (Yk c xs r)]; exact r
   rcases hc with rfl | hc
   ·exact hbe
   ·rintro rfl
    rcases he with z | z
    ·exact Vz c b hc z
    ·rw [hc] at z; cases z; exact hb rfl
end
structure Un (fs ex:List Addr) (H H':Hp) (h h':Heap):Prop where
 keep:∀b o,h.get? b=some o→H b=none→b∉fs→b∉ex→h'.get? b=some o
 slot:∀b o,h.get? b=some o→H b=none→b∈fs→b∉ex→∃sl,h'.get? b=some { o with slots:=sl }
 free:∀b o,h.get? b=some o→H b=none→b∉ex→H' b=none
 there:∀b o,h.get? b=some o→b∉ex→∃o',h'.get? b=some o'
 tups:∀b xs,H b=some (.tup xs)→H' b=some (.tup xs)
 qb:∀b o u,H b=some (.zP o u)→H' b=some (.zP o u)
 sH:∀b ps,H b=some (.SM ps)→∃more,H' b=some (.SM (ps++more))
section
variable {fs fs' ex ex':List Addr} {H H1 H2:Hp} {h h1 h2 h':Heap} {a x e:Addr} {o:HO}
theorem Un.any (u:Un fs ex H H1 h h1) {b:Addr} {ob:Obj} (q:h.get? b=some ob) (n:H b=none) (hx:b∉ex):∃sl,h1.get? b=some { ob with slots:=sl }:=by
 by_cases hb:b∈fs
 ·exact u.slot b ob q n hb hx
 ·exact ⟨ob.slots,u.keep b ob q n hb hx⟩
theorem Un.trans (a:Un fs ex H H1 h h1) (b:Un fs ex H1 H2 h1 h2):Un fs ex H H2 h h2 where
 keep:=fun c ob q n hc hx=>b.keep c ob (a.keep c ob q n hc hx) (a.free c ob q n hx) hc hx
 slot:=fun c ob q n hc hx=>by
  obtain ⟨sl,e1⟩:=a.slot c ob q n hc hx
  obtain ⟨sl',e2⟩:=b.slot c _ e1 (a.free c ob q n hx) hc hx
  exact ⟨sl',e2⟩
 free:=fun c ob q n hx=>by
  obtain ⟨o',e1⟩:=a.there c ob q hx
  exact b.free c o' e1 (a.free c ob q n hx) hx
 there:=fun c ob q hx=>by
  obtain ⟨o',e1⟩:=a.there c ob q hx
  exact b.there c o' e1 hx
 tups:=fun c xs q=>b.tups c xs (a.tups c xs q)
 qb:=fun c ob xs q=>b.qb c ob xs (a.qb c ob xs q)
 sH:=fun c ps q=>by
  obtain ⟨m1,e1⟩:=a.sH c ps q
  obtain ⟨m2,e2⟩:=b.sH c _ e1
  exact ⟨m1++m2,by rw [e2,Array.append_assoc]⟩
theorem Un.kept (k:∀b u,h.get? b=some u→h'.get? b=some u):Un fs ex H H h h':=
 ⟨fun b ob q _ _ _=>k b ob q,fun b ob q _ _ _=>⟨ob.slots,k b ob q⟩,fun _ _ _ n _=>n,fun b ob q _=>⟨ob,k b ob q⟩,fun _ _ q=>q,fun _ _ _ q=>q,fun _ ps q=>⟨#[],by rw [q]; simp⟩⟩
theorem Un.refl:Un fs ex H H h h:=Un.kept fun _ _ q=>q
theorem Un.laid (k:∀b u,h.get? b=some u→h'.get? b=some u) (hp:h.objs.size≤a) (hn:H a=none):Un fs ex H (upd H a o) h h' where
 keep:=fun b u q _ _ _=>k b u q
 slot:=fun b u q _ _ _=>⟨u.slots,k b u q⟩
 free:=fun b u q n _=>by rw [aO (Nat.ne_of_lt (Nat.lt_of_lt_of_le (Heap.lt_size q) hp))]; exact n
 there:=fun b u q _=>⟨u,k b u q⟩
 tups:=fun b xs q=>by rw [aO (bC q hn)]; exact q
 qb:=fun b u xs q=>by rw [aO (bC q hn)]; exact q
 sH:=fun b ps q=>⟨#[],by rw [aO (bC q hn),q]; simp⟩
theorem Un.write (mu:Vy (H x)) (he:e=x∨H e=some (.own x)) (k:∀b u,b≠e→h.get? b=some u→h'.get? b=some u) (heo:∃u,h'.get? e=some u):Un fs ex H (upd H x o) h h':=by
 have hx:∀b,H b=none→b≠x:=fun b n z=>by subst z; rw [n] at mu; exact mu
 have hb:∀b,H b=none→b≠e:=fun b n z=>by
  subst z
  rcases he with r | r
  ·exact hx b n r
  ·rw [n] at r; cases r
 have hm:∀b u,H b=some u→¬Vy (some u)→b≠x:=fun b u q nm z=>by subst z; rw [q] at mu; exact nm mu
 refine ⟨fun b u q n _ _=>k b u (hb b n) q,fun b u q n _ _=>⟨u.slots,k b u (hb b n) q⟩,fun b u q n _=>by rw [aO (hx b n)]; exact n,fun b u q _=>?_,
  fun b xs q=>by rw [aO (hm b _ q fun z=>z)]; exact q,fun b u xs q=>by rw [aO (hm b _ q fun z=>z)]; exact q,fun b ps q=>⟨#[],by rw [aO (hm b _ q fun z=>z),q]; simp⟩⟩
 by_cases hbe:b=e
 ·subst hbe; exact heo
 ·exact ⟨u,k b u hbe q⟩
theorem Un.mono (u:Un fs ex H H1 h h1) (hs:∀b∈fs,b∈fs') (hx:∀b∈ex,b∈ex'):Un fs' ex' H H1 h h1:=
 ⟨fun b ob q n hb he=>u.keep b ob q n (fun z=>hb (hs b z)) fun z=>he (hx b z),fun _ _ q n _ he=>u.any q n fun z=>he (hx _ z),fun b ob q n he=>u.free b ob q n fun z=>he (hx b z),fun b ob q he=>u.there b ob q fun z=>he (hx b z),u.tups,u.qb,u.sH⟩
end
noncomputable def Xz (h:Heap) (H:Hp):List Addr:=(List.range h.objs.size).filter fun a=>(H a).isSome
noncomputable def ym (h:Heap) (H:Hp):Heap:=PySem.W.hideAll h (Xz h H)
theorem Hw (h:Heap) (H:Hp):(ym h H).objs.size=h.objs.size:=PySem.W.hideAll_size _ _
theorem JM {h:Heap} {H:Hp} {b:Addr} {o:Obj} (e:h.get? b=some o) (n:H b=none):(ym h H).get? b=some o:=
 PySem.W.hideAll_get _ e fun hm=>by
  have q:(H b).isSome=true:=(List.mem_filter.mp hm).2
  rw [n] at q; simp at q
theorem Ob {h:Heap} {H:Hp} {b:Addr} {o:Obj} (e:(ym h H).get? b=some o):h.get? b=some o∧H b=none:=by
 have e':h.get? b=some o:=PySem.W.of_hideAll (Xz h H) e
 refine ⟨e',?_⟩
 cases q:H b with
 | none=>rfl
 | some x=>
  have hm:b∈Xz h H:=List.mem_filter.mpr ⟨List.mem_range.mpr (Heap.lt_size e'),by simp [q]⟩
  have z:(ym h H).get? b=none:=PySem.W.hideAll_none (Xz h H) hm
  rw [z] at e; cases e
noncomputable def Oc (g h:Heap) (L:Addr):List (Addr×Obj):=(List.range h.objs.size).filterMap fun a=>if a=L∨(g.get? a).isSome=true then none else (h.get? a).map fun o=>(a,o)
noncomputable def rest (g h:Heap) (L d:Addr):List (Addr×Obj):=(Oc g h L).filter fun p=>decide (p.1≠d)
end L2
namespace L2
open PySem PySem.Spec PyProof.Rows
structure Mod (K:PySem.W.Frag) (mg:Str→Option Value) (base:Heap):Prop where
 Yl:K.In base
 glob:base.Ns mainGlobals mg
 blt:∃mb,base.Ns builtinsNs mb∧∀x:Str,x≠"__name__"→mb x=bootBuiltins x
 nolimit:base.NoLimit
structure Cx where
 prog:Program
 w:World
 K:PySem.W.Frag
 mg:Str→Option Value
 base:Heap
 A:Around
 N:List Str
 s₀:Shared
 H₀:Hp
 env:Env
 outer:List Env
 stack:List Env
 ex:List Addr
 fn:Str→Bool
 calm:Bool
 pn:List (Addr×Obj)
 xe:Value→Shared→Prop
noncomputable def frs (l:List Env):List Addr:=l.filterMap (·.frame)
noncomputable abbrev Cx.fs (X:Cx):List Addr:=frs X.outer
noncomputable def Ym (sc:Scope) (x:Str):Prop:=sc.names.lookup x=some .local∨sc.names.lookup x=some .cell∨sc.names.lookup x=some .free
noncomputable def Loc (sc:Scope) (x:Str):Prop:=sc.names.lookup x=some .local∨sc.names.lookup x=some .cell
noncomputable def Look (env:Env) (h:Heap) (m:Str→Option Value) (x:Str) (u:Value):Prop:=
 (env.kindOf x=some .local∧m x=some u)∨((env.kindOf x=some .cell∨env.kindOf x=some .free)∧∃c,env.cells.lookup x=some c∧h.IsCell c (some u))
structure Cx.Ok (X:Cx):Prop where
 mod:Mod X.K X.mg X.base
 kind:X.env.scope.kind=.function
 glob:X.env.globals=mainGlobals
 blt:X.env.builtins=builtinsNs
 above:X.s₀.heap.objs.size≤X.env.locals
 inj:∀x y c,X.env.cells.lookup x=some c→X.env.cells.lookup y=some c→x=y
 has:∀x,(X.env.kindOf x=some .cell∨X.env.kindOf x=some .free)→∃c,X.env.cells.lookup x=some c
 cab:∀x c,X.fn x=true→X.env.cells.lookup x=some c→X.s₀.heap.objs.size≤c
 hd:X.calm=true→X.A.handled=none
 frames:X.A.frames=some X.stack
 stk:X.stack=X.outer∨(X.stack=X.env::X.outer∧X.env.frame=some X.env.locals)
 exf:∀b∈X.ex,b≠X.env.locals∧∀x c,X.env.cells.lookup x=some c→c≠b
 bs:∀b o,X.base.get? b=some o→X.s₀.heap.get? b=some o∧X.H₀ b=none
 NK:X.base.objs.size≤X.s₀.heap.objs.size
 JN:∀b o,X.base.get? b=some o→b∉X.ex
 Od:∀b∈X.ex,b∉X.fs
 sI:X.s₀.heap.FunFrames X.base X.outer
 SQ:∀b∈X.fs,X.H₀ b=none
structure Inv (X:Cx) (pins:List (Addr×Obj)) (σ:List (Option V)) (H:Hp) (s:Shared):Prop where
 ok:X.Ok
 os:s.os=X.s₀.os
 bare:AllBare s.gens
 base:Un X.fs X.ex X.H₀ H X.s₀.heap s.heap
 loc:∃m,s.heap.Ns X.env.locals m∧∀(i:Nat) (x:Str) (v:V),X.N[i]?=some x→σ[i]?=some (some v)→Ym X.env.scope x→∃u,RelV v u∧Look X.env s.heap m x u
 cell:∀x c,X.env.cells.lookup x=some c→∃v,s.heap.IsCell c v
 free:H X.env.locals=none
 kj:∀x c,X.env.cells.lookup x=some c→H c=none
 pin:∀p∈X.pn++pins,s.heap.get? p.1=some p.2∧H p.1=none∧p.1≠X.env.locals∧p.1∉X.fs∧∀v,p.2.data≠.cell v
 hok:oE X.prog X.w H s.heap
 len:σ.length=X.N.length
section
variable {X:Cx} {pins:List (Addr×Obj)} {σ:List (Option V)} {H H':Hp} {s:Shared} {h':Heap}
theorem Cx.Ok.Yn (ok:X.Ok) {b:Addr} {o:Obj} (e:X.base.get? b=some o):b∉X.fs:=fun hb=>by
 have:=(ok.sI.mem hb).1
 rw [e] at this; cases this
theorem Inv.bs (I:Inv X pins σ H s):∀b o,X.base.get? b=some o→s.heap.get? b=some o∧H b=none:=fun b o e=>
 ⟨I.base.keep b o (I.ok.bs b o e).1 (I.ok.bs b o e).2 (I.ok.Yn e) (I.ok.JN b o e),I.base.free b o (I.ok.bs b o e).1 (I.ok.bs b o e).2 (I.ok.JN b o e)⟩
theorem Inv.bk (I:Inv X pins σ H s):∀b o,X.base.get? b=some o→s.heap.get? b=some o:=fun b o e=>(I.bs b o e).1
theorem Inv.mod (I:Inv X pins σ H s):Mod X.K X.mg X.base:=I.ok.mod
theorem Inv.p6 (I:Inv X pins σ H s):X.K.In s.heap:=I.ok.mod.Yl.keeps I.bk
theorem Inv.nolimit (I:Inv X pins σ H s):s.heap.NoLimit:=I.ok.mod.nolimit.keeps I.bk
theorem Inv.fr (I:Inv X pins σ H s):∃m,Fr X.base X.env.locals s.heap m:=
 let ⟨m,hn,_⟩:=I.loc
 ⟨m,hn,I.bk,Nat.le_trans I.ok.NK I.ok.above⟩
theorem Inv.lt (I:Inv X pins σ H s):X.env.locals < s.heap.objs.size:=let ⟨_,hn,_⟩:=I.loc; hn.lt
theorem Inv.sz (I:Inv X pins σ H s):X.s₀.heap.objs.size≤s.heap.objs.size:=Nat.le_trans I.ok.above (Nat.le_of_lt I.lt)
theorem Inv.Yo (I:Inv X pins σ H s) {a:Addr} (h:s.heap.objs.size≤a):a∉X.fs:=fun hb=>by
 obtain ⟨_,o,ho,_⟩:=I.ok.sI.mem hb
 exact absurd (Nat.lt_of_lt_of_le (Heap.lt_size ho) (Nat.le_trans I.sz h)) (Nat.lt_irrefl _)
theorem Inv.SX (I:Inv X pins σ H s):∀x c,X.env.cells.lookup x=some c→c≠X.env.locals:=fun x c e z=>by
 obtain ⟨v,o,ho,hd⟩:=I.cell x c e
 obtain ⟨m,⟨o',es,ep,ho',hd',_⟩,_⟩:=I.loc
 rw [z,ho'] at ho; cases ho; rw [hd'] at hd; cases hd
theorem Inv.sI (I:Inv X pins σ H s):s.heap.FunFrames X.base X.outer:=by
 have all:∀(l:List Env),(∀b∈frs l,b∈X.fs)→X.s₀.heap.FunFrames X.base l→s.heap.FunFrames X.base l:=by
  intro l
  induction l with
  | nil=>intro _ _; trivial
  | cons env r ih=>
   intro hs hl
   obtain ⟨hk,⟨L,o,hf,hn,ho,hd⟩,hr⟩:=hl
   have hL:L∈X.fs:=hs L (by unfold frs; rw [List.filterMap_cons,hf]; exact List.mem_cons_self)
   obtain ⟨sl,e⟩:=I.base.slot L o ho (I.ok.SQ L hL) hL fun z=>I.ok.Od L z hL
   exact ⟨hk,⟨L,_,hf,hn,e,hd⟩,ih (fun b hb=>hs b (by unfold frs; rw [List.filterMap_cons,hf]; exact List.mem_cons_of_mem _ hb)) hr⟩
 exact all X.outer (fun _ hb=>hb) I.ok.sI
theorem Inv.stack (I:Inv X pins σ H s):s.heap.FunFrames X.base X.stack:=by
 rcases I.ok.stk with e | ⟨e,hf⟩
 ·rw [e]; exact I.sI
 ·rw [e]
  obtain ⟨m,hn,_⟩:=I.loc
  refine .cons (by rw [I.ok.kind]; decide) hf hn ?_ I.sI
  exact Heap.get?_none_of_le (Nat.le_trans I.ok.NK I.ok.above)
theorem Inv.qg (I:Inv X pins σ H s):∀b∈frs X.stack,b∈X.env.locals::X.fs:=fun b hb=>by
 rcases I.ok.stk with e | ⟨e,hf⟩
 ·rw [e] at hb; exact List.mem_cons_of_mem _ hb
 ·rw [e] at hb
  unfold frs at hb
  rw [List.filterMap_cons,hf] at hb
  exact hb
theorem Inv.Ey (I:Inv X pins σ H s):∀b∈frs X.stack,H b=none:=fun b hb=>by
 rcases List.mem_cons.mp (I.qg b hb) with e | hb
 ·rw [e]; exact I.free
 ·obtain ⟨_,o,ho,_⟩:=I.ok.sI.mem hb
  exact I.base.free b o ho (I.ok.SQ b hb) fun z=>I.ok.Od b z hb
theorem Inv.step {g':Array GenState} {t':Nat} {d':Drawn} {ch:List Addr} (I:Inv X pins σ H s)
  (hch:∀b∈ch,(b∈X.ex∨X.s₀.heap.objs.size≤b)∧b≠X.env.locals∧(∀x c,X.env.cells.lookup x=some c→c≠b)∧∀p∈X.pn++pins,p.1≠b)
  (keep:∀b o,b≠X.env.locals→b∉X.fs→b∉ch→s.heap.get? b=some o→H b=none→h'.get? b=some o)
  (slot:∀b o,b≠X.env.locals→b∈X.fs→b∉ch→s.heap.get? b=some o→H b=none→∃sl,h'.get? b=some { o with slots:=sl }) (free:∀b o,b∉ch→s.heap.get? b=some o→H b=none→H' b=none)
  (there:∀b o,b∉ch→s.heap.get? b=some o→∃o',h'.get? b=some o')
  (tups:∀b xs,H b=some (.tup xs)→H' b=some (.tup xs)) (qb:∀b o u,H b=some (.zP o u)→H' b=some (.zP o u)) (sH:∀b ps,H b=some (.SM ps)→∃more,H' b=some (.SM (ps++more)))
  (ns:∀m,s.heap.Ns X.env.locals m→h'.Ns X.env.locals m) (hok:oE X.prog X.w H' h') (hg:AllBare g'):
  Inv X pins σ H' { s with heap:=h',gens:=g',drawn:=d',toks:=t' }:=by
 have neL:∀b o,X.s₀.heap.get? b=some o→b≠X.env.locals:=fun b o e=>Nat.ne_of_lt (Nat.lt_of_lt_of_le (Heap.lt_size e) I.ok.above)
 have XC:∀b o,X.s₀.heap.get? b=some o→b∉X.ex→b∉ch:=fun b o e hx hb=>by
  rcases (hch b hb).1 with z | z
  ·exact hx z
  ·exact absurd (Nat.lt_of_lt_of_le (Heap.lt_size e) z) (Nat.lt_irrefl _)
 have cellK:∀x c,X.env.cells.lookup x=some c→∀v,s.heap.IsCell c v→h'.IsCell c v:=fun x c e v aR=>by
  obtain ⟨o,ho,hd⟩:=aR
  have VB:c∉ch:=fun z=>(hch c z).2.2.1 x c e rfl
  by_cases hc:c∈X.fs
  ·obtain ⟨sl,q⟩:=slot c o (I.SX x c e) hc VB ho (I.kj x c e)
   exact ⟨_,q,hd⟩
  ·exact ⟨o,keep c o (I.SX x c e) hc VB ho (I.kj x c e),hd⟩
 refine ⟨I.ok,I.os,hg,⟨fun b o e n hb hx=>?_,fun b o e n hb hx=>?_,fun b o e n hx=>?_,fun b o e hx=>?_,fun b xs e=>tups b xs (I.base.tups b xs e),fun b o xs e=>qb b o xs (I.base.qb b o xs e),fun b ps e=>?_⟩,?_,fun x c e=>?_,?_,fun x c e=>?_,fun p hp=>?_,hok,I.len⟩
 ·exact keep b o (neL b o e) hb (XC b o e hx) (I.base.keep b o e n hb hx) (I.base.free b o e n hx)
 ·obtain ⟨sl,e1⟩:=I.base.slot b o e n hb hx
  obtain ⟨sl',e2⟩:=slot b _ (neL b o e) hb (XC b o e hx) e1 (I.base.free b o e n hx)
  exact ⟨sl',e2⟩
 ·obtain ⟨o',e1⟩:=I.base.there b o e hx
  exact free b o' (XC b o e hx) e1 (I.base.free b o e n hx)
 ·obtain ⟨o',e1⟩:=I.base.there b o e hx
  exact there b o' (XC b o e hx) e1
 ·obtain ⟨m1,e1⟩:=I.base.sH b ps e
  obtain ⟨m2,e2⟩:=sH b _ e1
  exact ⟨m1++m2,by rw [e2,Array.append_assoc]⟩
 ·obtain ⟨m,hn,hl⟩:=I.loc
  refine ⟨m,ns m hn,fun i x v e1 e2 e3=>?_⟩
  obtain ⟨u,r,l⟩:=hl i x v e1 e2 e3
  refine ⟨u,r,?_⟩
  rcases l with l | ⟨k,c,e,z⟩
  ·exact .inl l
  ·exact .inr ⟨k,c,e,cellK x c e _ z⟩
 ·obtain ⟨v,z⟩:=I.cell x c e
  exact ⟨v,cellK x c e v z⟩
 ·obtain ⟨m,⟨o,_,_,ho,_⟩,_⟩:=I.loc
  exact free _ o (fun z=>(hch _ z).2.1 rfl) ho I.free
 ·obtain ⟨v,o,ho,hd⟩:=I.cell x c e
  exact free c o (fun z=>(hch c z).2.2.1 x c e rfl) ho (I.kj x c e)
 ·obtain ⟨e,n,ne,nf,d⟩:=I.pin p hp
  have VB:p.1∉ch:=fun z=>(hch p.1 z).2.2.2 p hp rfl
  exact ⟨keep p.1 p.2 ne nf VB e n,free p.1 p.2 VB e n,ne,nf,d⟩
theorem Inv.un {t':Nat} (I:Inv X pins σ H s) (u:Un X.fs [] H H' s.heap h') (hok:oE X.prog X.w H' h'):Inv X pins σ H' { s with heap:=h',toks:=t' }:=by
 obtain ⟨m,⟨o,es,ep,ho,r⟩,_⟩:=id I.loc
 obtain ⟨sl,hL⟩:=u.any ho I.free (by simp)
 exact I.step (g':=s.gens) (d':=s.drawn) (ch:=[]) (fun _ z=>nomatch z) (fun b o _ hb _ e n=>u.keep b o e n hb (by simp)) (fun b o _ hb _ e n=>u.slot b o e n hb (by simp)) (fun b o _ e n=>u.free b o e n (by simp)) (fun b o _ e=>u.there b o e (by simp)) u.tups u.qb u.sH (fun m' hm=>by
  obtain ⟨o',es',ep',ho',r'⟩:=hm
  rw [ho] at ho'; cases ho'
  exact ⟨_,es',ep',hL,r'⟩) hok I.bare
theorem Inv.call {g':Array GenState} {t':Nat} {d':Drawn} {ch:List Addr} (I:Inv X pins σ H s) (u:Un (frs X.stack) ch H H' s.heap h') (hok:oE X.prog X.w H' h') (hg:AllBare g')
  (hch:∀b∈ch,(b∈X.ex∨X.s₀.heap.objs.size≤b)∧b≠X.env.locals∧(∀x c,X.env.cells.lookup x=some c→c≠b)∧∀p∈X.pn++pins,p.1≠b):
  Inv X pins σ H' { s with heap:=h',gens:=g',drawn:=d',toks:=t' }:=by
 obtain ⟨m,⟨o,es,ep,ho,r⟩,_⟩:=id I.loc
 obtain ⟨sl,hL⟩:=u.any ho I.free fun z=>(hch _ z).2.1 rfl
 exact I.step (ch:=ch) hch (fun b o hL hb hc e n=>u.keep b o e n (fun z=>(List.mem_cons.mp (I.qg b z)).elim hL hb) hc) (fun b o _ _ hc e n=>u.any e n hc) (fun b o hc e n=>u.free b o e n hc) (fun b o hc e=>u.there b o e hc) u.tups u.qb u.sH (fun m' hm=>by
  obtain ⟨o',es',ep',ho',r'⟩:=hm
  rw [ho] at ho'; cases ho'
  exact ⟨_,es',ep',hL,r'⟩) hok hg
theorem Inv.turned {t':Nat} {it:Addr} (I:Inv X pins σ H s) (k:∀b o,b≠it→s.heap.get? b=some o→h'.get? b=some o) (hn:H it=none) (hL:it≠X.env.locals)
  (h1:it∈X.ex∨X.s₀.heap.objs.size≤it) (h2:∀x c,X.env.cells.lookup x=some c→c≠it) (h3:∀p∈X.pn++pins,p.1≠it):Inv X pins σ H { s with heap:=h',toks:=t' }:=by
 have VD:∀b u,H b=some u→b≠it:=fun b u e z=>by rw [z,hn] at e; cases e
 refine I.step (g':=s.gens) (d':=s.drawn) (ch:=[it]) (fun b hb=>?_) (fun b o _ _ hc e _=>k b o (fun z=>hc (by simp [z])) e) (fun b o _ _ hc e _=>⟨o.slots,k b o (fun z=>hc (by simp [z])) e⟩) (fun _ _ _ _ n=>n)
  (fun b o hc e=>⟨o,k b o (fun z=>hc (by simp [z])) e⟩) (fun _ _ e=>e) (fun _ _ _ e=>e) (fun b ps e=>⟨#[],by rw [e]; simp⟩) (fun m hm=>?_) (fun b u e=>?_) I.bare
 ·have e:b=it:=by simpa using hb
  subst e
  exact ⟨h1,hL,h2,h3⟩
 ·obtain ⟨o,es,ep,ho,r⟩:=hm
  exact ⟨o,es,ep,k _ o (Ne.symm hL) ho,r⟩
 ·refine (I.hok b u e).stay (fun c v hc q=>k c v ?_ q) (fun _ q=>q) fun _ _ q=>q
  rcases hc with z | z
  ·rw [z]; exact VD b u e
  ·exact VD c _ z
theorem Inv.tok (I:Inv X pins σ H s) (t:Nat):Inv X pins σ H { s with toks:=t }:=I.un (h':=s.heap) (t':=t) Un.refl I.hok
theorem Inv.kept {t':Nat} (I:Inv X pins σ H s) (k:∀b u,s.heap.get? b=some u→h'.get? b=some u):Inv X pins σ H { s with heap:=h',toks:=t' }:=I.un (Un.kept k) (I.hok.kept k)
theorem Inv.laid {a:Addr} {o:HO} {t':Nat} (I:Inv X pins σ H s) (k:∀b u,s.heap.get? b=some u→h'.get? b=some u) (hp:s.heap.objs.size≤a) (new:bV X.prog X.w (upd H a o) h' a o):
  Inv X pins σ (upd H a o) { s with heap:=h',toks:=t' }:=I.un (Un.laid k hp (I.hok.fresh hp)) (I.hok.laid k hp new)
theorem Inv.write {x e:Addr} {o:HO} {t':Nat} (I:Inv X pins σ H s) (mu:Vy (H x)) (he:e=x∨H e=some (.own x)) (k:∀b u,b≠e→s.heap.get? b=some u→h'.get? b=some u) (heo:∃u,h'.get? e=some u)
  (new:bV X.prog X.w (upd H x o) h' x o):Inv X pins σ (upd H x o) { s with heap:=h',toks:=t' }:=I.un (Un.write mu he k heo) (I.hok.write mu he k heo new)
theorem Inv.weak {σ':List (Option V)} (I:Inv X pins σ H s) (hl:σ'.length=σ.length) (w:∀(i:Nat) v,σ'[i]?=some (some v)→σ[i]?=some (some v)):Inv X pins σ' H s:=
 ⟨I.ok,I.os,I.bare,I.base,let ⟨m,hn,hl'⟩:=I.loc; ⟨m,hn,fun i x v e1 e2 e3=>hl' i x v e1 (w i v e2) e3⟩,I.cell,I.free,I.kj,I.pin,I.hok,hl.trans I.len⟩
theorem Inv.Ez {EY:List (Addr×Obj)} (I:Inv X pins σ H s) (h:∀p∈EY,s.heap.get? p.1=some p.2∧H p.1=none∧p.1≠X.env.locals∧p.1∉X.fs∧∀v,p.2.data≠.cell v):Inv X EY σ H s:=
 ⟨I.ok,I.os,I.bare,I.base,I.loc,I.cell,I.free,I.kj,fun p hp=>(List.mem_append.mp hp).elim (fun z=>I.pin p (List.mem_append_left _ z)) (h p),I.hok,I.len⟩
theorem zV {N:List Str} (hN:N.Nodup) {i j:Nat} {x:Str} (a:N[i]?=some x) (b:N[j]?=some x):i=j:=by
 obtain ⟨h1,e1⟩:=List.getElem?_eq_some_iff.mp a
 obtain ⟨h2,e2⟩:=List.getElem?_eq_some_iff.mp b
 exact (List.getElem_inj hN).mp (e1.trans e2.symm)
theorem qi {M:Model} {A:Around} {E:Value→Shared→Prop} {i:Nat} {x:Str} {v:V} {u:Value} {Q:Unit→Shared→Prop} (I:Inv X pins σ H s) (hN:X.N.Nodup) (hi:X.N[i]?=some x) (hx:Loc X.env.scope x) (r:RelV v u)
  (h:∀s',Inv X pins (σ.set i (some v)) H s'→(∃a,Heap.SameBut a s.heap s'.heap∧(a=X.env.locals∨X.env.cells.lookup x=some a))→Q () s') (hf:X.fn x=true∨X.env.scope.names.lookup x=some .local:=by first | exact .inl rfl | exact .inr rfl | assumption):wpAny M A (storeName X.env x u) Q E s:=by
 obtain ⟨m,hn,hl⟩:=id I.loc
 have hcls:(X.env.scope.kind==.class || (X.env.scope.kind==.module&&X.env.locals != X.env.globals))=false:=by rw [I.ok.kind]; rfl
 have hiσ:i < σ.length:=by rw [I.len]; exact (List.getElem?_eq_some_iff.mp hi).1
 have SX:=I.SX
 have tracked:∀{a:Addr} {h':Heap},(∃o,s.heap.get? a=some o∧H a=none)→Heap.SameBut a s.heap h'→oE X.prog X.w H h':=fun {a h'} ha hs b ob e=>by
  obtain ⟨_,_,hfree⟩:=ha
  refine (I.hok b ob e).stay (fun c w' hc q=>(hs.2 c ?_).trans q) (fun _ q=>q) fun _ _ q=>q
  rintro rfl
  rcases hc with rfl | hc
  ·rw [hfree] at e; cases e
  ·rw [hfree] at hc; cases hc
 rcases hx with hk | hk
 ·refine wpAny_storeName_local hk hn (fun h' hn' hs=>?_) hcls
  obtain ⟨oL,_,_,hoL,_⟩:=id hn
  refine h _ ⟨I.ok,I.os,I.bare,⟨fun b o e n hb hx=>?_,fun b o e n hb hx=>?_,I.base.free,fun b o e hx=>?_,I.base.tups,I.base.qb,I.base.sH⟩,⟨_,hn',fun j y v' e1 e2 e3=>?_⟩,fun y c e=>?_,I.free,I.kj,fun p hp=>?_,tracked ⟨oL,hoL,I.free⟩ hs,by simpa using I.len⟩ ⟨_,hs,.inl rfl⟩
  ·exact (hs.2 b (Nat.ne_of_lt (Nat.lt_of_lt_of_le (Heap.lt_size e) I.ok.above))).trans (I.base.keep b o e n hb hx)
  ·obtain ⟨sl,e1⟩:=I.base.slot b o e n hb hx
   exact ⟨sl,(hs.2 b (Nat.ne_of_lt (Nat.lt_of_lt_of_le (Heap.lt_size e) I.ok.above))).trans e1⟩
  ·obtain ⟨o',e1⟩:=I.base.there b o e hx
   exact ⟨o',(hs.2 b (Nat.ne_of_lt (Nat.lt_of_lt_of_le (Heap.lt_size e) I.ok.above))).trans e1⟩
  ·by_cases hj:j=i
   ·subst hj
    rw [hi] at e1; cases e1
    rw [List.getElem?_set_self hiσ] at e2
    cases e2
    exact ⟨u,r,.inl ⟨hk,by simp⟩⟩
   ·rw [List.getElem?_set_ne (Ne.symm hj)] at e2
    obtain ⟨u',r',q⟩:=hl j y v' e1 e2 e3
    refine ⟨u',r',?_⟩
    rcases q with ⟨k,e⟩ | ⟨k,c,e,z⟩
    ·refine .inl ⟨k,?_⟩
     have:y≠x:=fun e=>hj (zV hN e1 (e ▸ hi))
     simp [this,e]
    ·exact .inr ⟨k,c,e,z.sameBut hs (SX y c e)⟩
  ·obtain ⟨w',z⟩:=I.cell y c e
   exact ⟨w',z.sameBut hs (SX y c e)⟩
  ·obtain ⟨e,n,ne,nf,d⟩:=I.pin p hp
   exact ⟨(hs.2 p.1 ne).trans e,n,ne,nf,d⟩
 ·have hfn:X.fn x=true:=by
   rcases hf with z | z
   ·exact z
   ·rw [z] at hk; cases hk
  obtain ⟨c,hc⟩:=I.ok.has x (.inl hk)
  obtain ⟨w',z⟩:=I.cell x c hc
  refine wpAny_storeName_cell I.ok.kind hk hc z (fun h' hc' hs=>?_)
  obtain ⟨oc,hoc,Yp⟩:=id z
  refine h { s with heap:=h' } ⟨I.ok,I.os,I.bare,⟨fun b o e n hb hx=>?_,fun b o e n hb hx=>?_,I.base.free,fun b o e hx=>?_,I.base.tups,I.base.qb,I.base.sH⟩,⟨m,hn.sameBut hs (Ne.symm (SX x c hc)),fun j y v' e1 e2 e3=>?_⟩,fun y c' e=>?_,I.free,I.kj,fun p hp=>?_,tracked ⟨oc,hoc,I.kj x c hc⟩ hs,by simpa using I.len⟩ ⟨c,hs,.inr hc⟩
  ·exact (hs.2 b (Nat.ne_of_lt (Nat.lt_of_lt_of_le (Heap.lt_size e) (I.ok.cab x c hfn hc)))).trans (I.base.keep b o e n hb hx)
  ·obtain ⟨sl,e1⟩:=I.base.slot b o e n hb hx
   exact ⟨sl,(hs.2 b (Nat.ne_of_lt (Nat.lt_of_lt_of_le (Heap.lt_size e) (I.ok.cab x c hfn hc)))).trans e1⟩
  ·obtain ⟨o',e1⟩:=I.base.there b o e hx
   exact ⟨o',(hs.2 b (Nat.ne_of_lt (Nat.lt_of_lt_of_le (Heap.lt_size e) (I.ok.cab x c hfn hc)))).trans e1⟩
  ·by_cases hj:j=i
   ·subst hj
    rw [hi] at e1; cases e1
    rw [List.getElem?_set_self hiσ] at e2
    cases e2
    exact ⟨u,r,.inr ⟨.inl hk,c,hc,hc'⟩⟩
   ·rw [List.getElem?_set_ne (Ne.symm hj)] at e2
    obtain ⟨u',r',q⟩:=hl j y v' e1 e2 e3
    refine ⟨u',r',?_⟩
    rcases q with q | ⟨k,c',e,z'⟩
    ·exact .inl q
    ·refine .inr ⟨k,c',e,z'.sameBut hs ?_⟩
     rintro rfl
     exact hj (zV hN e1 (I.ok.inj _ _ _ e hc ▸ hi))
  ·by_cases hcc:c'=c
   ·subst hcc; exact ⟨_,hc'⟩
   ·obtain ⟨w2,z2⟩:=I.cell y c' e
    exact ⟨w2,z2.sameBut hs hcc⟩
  ·obtain ⟨e,n,ne,nf,d⟩:=I.pin p hp
   refine ⟨(hs.2 p.1 ?_).trans e,n,ne,nf,d⟩
   intro q
   rw [q,hoc] at e
   have q':oc=p.2:=Option.some.inj e
   exact d w' (by rw [←q']; exact Yp)
theorem jn {M:Model} {A:Around} {E:Value→Shared→Prop} {i:Nat} {x:Str} {v:V} {u:Value} {Q:Unit→Shared→Prop} (I:Inv X pins σ H s) (hN:X.N.Nodup) (hi:X.N[i]?=some x) (hx:Loc X.env.scope x) (r:RelV v u)
  (h:∀s',Inv X pins (σ.set i (some v)) H s'→Q () s') (hf:X.fn x=true∨X.env.scope.names.lookup x=some .local:=by first | exact .inl rfl | exact .inr rfl | assumption):wpAny M A (storeName X.env x u) Q E s:=
 qi I hN hi hx r (fun s' I' _=>h s' I') hf
theorem Inv.call' {s':Shared} {ch:List Addr} (I:Inv X pins σ H s) (ho:s'.os=s.os) (u:Un (frs X.stack) ch H H' s.heap s'.heap) (hok:oE X.prog X.w H' s'.heap) (hg:AllBare s'.gens)
  (hch:∀b∈ch,(b∈X.ex∨X.s₀.heap.objs.size≤b)∧b≠X.env.locals∧(∀x c,X.env.cells.lookup x=some c→c≠b)∧∀p∈X.pn++pins,p.1≠b):Inv X pins σ H' s':=by
 obtain ⟨h',g',d',t',o'⟩:=s'
 have e:o'=s.os:=ho
 subst e
 exact I.call (g':=g') (t':=t') (d':=d') u hok hg hch
end
noncomputable abbrev XK:=Value→Option Addr→Hp→Prop
noncomputable abbrev St:=List (Option V)
noncomputable abbrev VK:=V→Hp→Prop
noncomputable abbrev TE:=St→Hp→VK→Prop
noncomputable abbrev TT:=St→Hp→(Bool→Hp→Prop)→Prop
noncomputable abbrev TA:=St→Hp→(List V→Hp→Prop)→Prop
structure Ends where
 nx:St→Hp→Prop
 rt:VK
 bk:St→Hp→Prop:=fun _ _=>False
 ct:St→Hp→Prop:=fun _ _=>False
noncomputable abbrev TS:=Ends→St→Hp→Prop
noncomputable def EP (X:Cx) (pins:List (Addr×Obj)) (σ:St) (Q:VK) (u:Value) (s':Shared):Prop:=∃v H',Inv X pins σ H' s'∧RelV v u∧Q v H'
noncomputable def TP (X:Cx) (pins:List (Addr×Obj)) (σ:St) (Q:Bool→Hp→Prop) (b:Bool) (s':Shared):Prop:=∃H',Inv X pins σ H' s'∧Q b H'
noncomputable def AP (X:Cx) (pins:List (Addr×Obj)) (σ:St) (Q:List V→Hp→Prop) (us:List Value) (s':Shared):Prop:=∃vs H',Inv X pins σ H' s'∧Vals vs us∧Q vs H'
noncomputable def SP (X:Cx) (pins:List (Addr×Obj)) (D:Ends) (f:Flow) (s':Shared):Prop:=
 match f with
 | .next=>∃σ' H',Inv X pins σ' H' s'∧D.nx σ' H'
 | .brk=>∃σ' H',Inv X pins σ' H' s'∧D.bk σ' H'
 | .cont=>∃σ' H',Inv X pins σ' H' s'∧D.ct σ' H'
 | .ret u=>∃v σ' H',Inv X pins σ' H' s'∧RelV v u∧D.rt v H'
noncomputable def PE (X:Cx) (e:Expr) (t:TE):Prop:=
 ∀(pins:List (Addr×Obj)) (s:Shared) (σ:St) (H:Hp) (Q:VK),Inv X pins σ H s→t σ H Q→wpAny (model X.prog X.w) X.A (eval e X.env) (EP X pins σ Q) X.xe s
noncomputable def PT (X:Cx) (e:Expr) (t:TT):Prop:=
 ∀(pins:List (Addr×Obj)) (s:Shared) (σ:St) (H:Hp) (Q:Bool→Hp→Prop),Inv X pins σ H s→t σ H Q→wpAny (model X.prog X.w) X.A (isTrue e X.env (eval e X.env)) (TP X pins σ Q) X.xe s
noncomputable def PW (X:Cx) (e:Expr) (t:TT):Prop:=
 ∀(whole:Sem Value) (pins:List (Addr×Obj)) (s:Shared) (σ:St) (H:Hp) (Q:Bool→Hp→Prop),Inv X pins σ H s→t σ H Q→wpAny (model X.prog X.w) X.A (isTrue e X.env whole) (TP X pins σ Q) X.xe s
theorem PW.pt {X:Cx} {e:Expr} {t:TT} (h:PW X e t):PT X e t:=h _
noncomputable def PA (X:Cx) (es:List Expr) (t:TA):Prop:=
 ∀(pos:Pos) (pins:List (Addr×Obj)) (s:Shared) (σ:St) (H:Hp) (Q:List V→Hp→Prop),Inv X pins σ H s→t σ H Q→wpAny (model X.prog X.w) X.A (spliced (backTo pos (starEach es X.env))) (AP X pins σ Q) X.xe s
noncomputable def PS (X:Cx) (st:Stmt) (t:TS):Prop:=
 ∀(pins:List (Addr×Obj)) (s:Shared) (σ:St) (H:Hp) (D:Ends),Inv X pins σ H s→t D σ H→wpAny (model X.prog X.w) X.A (exec st X.env) (SP X pins D) X.xe s
noncomputable def sJ (X:Cx) (st:List Stmt) (t:TS):Prop:=
 ∀(pins:List (Addr×Obj)) (s:Shared) (σ:St) (H:Hp) (D:Ends),Inv X pins σ H s→t D σ H→wpAny (model X.prog X.w) X.A (execs st X.env) (SP X pins D) X.xe s
theorem cF {α:Type} {t:Sem α} {Q Q':α→Shared→Prop} {M:Model} {A:Around} {E:Value→Shared→Prop} {s:Shared} (h:wpAny M A t Q E s) (hQ:∀a s,Q a s→Q' a s):wpAny M A t Q' E s:=wpAny_mono h hQ fun _ _ x=>x
end L2
namespace L2
open PySem PySem.Spec PyProof.Rows
section
variable {X:Cx}
noncomputable def tW (i:Nat):TE:=fun σ H Q=>∃v,σ[i]?=some (some v)∧Q v H
noncomputable def tC (v:V):TE:=fun _ H Q=>Q v H
theorem S7 {i:Nat} {x:Str} {pos:Pos} (hN:X.N[i]?=some x) (hv:Ym X.env.scope x) (hd:(x==("__debug__":Str))=false:=by decide) (hcd:(x==("__classdict__":Str))=false:=by decide):PE X (.Name x pos) (tW i):=by
 intro pins s σ H Q I h
 obtain ⟨v,e,h⟩:=h
 obtain ⟨m,hn,hl⟩:=I.loc
 obtain ⟨u,r,l⟩:=hl i x v hN e hv
 have fin:EP X pins σ Q u s:=⟨v,H,I,r,h⟩
 rcases l with ⟨hk,hm⟩ | ⟨hk,c,hc,hcell⟩
 ·exact wpAny_Name (wpAny_loadName_local I.ok.kind hk hn hm fin) hd
 ·rcases hk with hk | hk
  ·exact wpAny_Name (wpAny_loadName_cell I.ok.kind hk hc hcell fin) hd
  ·exact wpAny_Name (wpAny_loadName_free I.ok.kind hk hc hcell fin hcd) hd
theorem au {i j pos}:PE X (.Constant (.int i) j pos) (tC (.int i)):=fun _ _ _ H _ I h=>wpAny_Constant_int ⟨.int i,H,I.tok _,⟨_,rfl⟩,h⟩
theorem tX {b j pos}:PE X (.Constant (.bool b) j pos) (tC (.bl b)):=fun _ _ _ H _ I h=>Constant_bool ⟨.bl b,H,I,rfl,h⟩
theorem yo {j pos}:PE X (.Constant .none j pos) (tC .non):=fun _ _ _ H _ I h=>Constant_none ⟨.non,H,I,rfl,h⟩
theorem jz {x j pos}:PE X (.Constant (.str x) j pos) (tC (.str x)):=fun _ _ _ H _ I h=>Calls.Constant_str ⟨.str x,H,I.tok _,⟨_,rfl⟩,h⟩
noncomputable def Gl (X:Cx) (x:Str):Prop:=X.env.kindOf x=some .globalImplicit
theorem Oe {E:Value→Shared→Prop} {pins:List (Addr×Obj)} {s:Shared} {σ:St} {H:Hp} {x:Str} {u:Value} {pos:Pos} {Q:Value→Shared→Prop} (I:Inv X pins σ H s) (hg:Gl X x) (hm:X.mg x=some u) (h:Q u s)
  (hd:(x==("__debug__":Str))=false:=by decide):wpAny (model X.prog X.w) X.A (eval (.Name x pos) X.env) Q E s:=
 Calls.Name_function_global I.ok.kind hg (Calls.loadGlobal_global (by rw [I.ok.glob]; exact I.mod.glob.keeps I.bk) hm h) hd
theorem gP {E:Value→Shared→Prop} {pins:List (Addr×Obj)} {s:Shared} {σ:St} {H:Hp} {x:Str} {u:Value} {pos:Pos} {Q:Value→Shared→Prop} (I:Inv X pins σ H s) (hg:Gl X x) (hm:X.mg x=none) (hv:bootBuiltins x=some u) (h:Q u s)
  (hn:x≠"__name__":=by decide) (hd:(x==("__debug__":Str))=false:=by decide):wpAny (model X.prog X.w) X.A (eval (.Name x pos) X.env) Q E s:=by
 obtain ⟨mb,h1,h2⟩:=I.mod.blt
 exact Calls.Name_function_global I.ok.kind hg (Calls.loadGlobal_builtin (by rw [I.ok.glob]; exact I.mod.glob.keeps I.bk) hm (by rw [I.ok.blt]; exact h1.keeps I.bk) ((h2 x hn).trans hv) h) hd
theorem dM {x:Str} {v:V} {u:Value} {pos:Pos} (hg:Gl X x) (hm:X.mg x=none) (hv:bootBuiltins x=some u) (r:RelV v u) (hn:x≠"__name__":=by decide) (hd:(x==("__debug__":Str))=false:=by decide):PE X (.Name x pos) (tC v):=
 fun _ _ _ H _ I h=>gP I hg hm hv ⟨v,H,I,r,h⟩ hn hd
variable {a b:Expr} {ta tb:TE} {pos:Pos}
variable {tA XD:TT} {rest:List Expr}
noncomputable def VF (t u:TT):TT:=fun σ H Q=>t σ H fun c H1=>if c=true then u σ H1 Q else Q false H1
noncomputable def tOr (t u:TT):TT:=fun σ H Q=>t σ H fun c H1=>if c=true then Q true H1 else u σ H1 Q
noncomputable def Yq (t:TT):TT:=fun σ H Q=>t σ H fun c H1=>Q (!c) H1
theorem pw_and1 (ha:PT X a tA):PW X (.BoolOp .And [a] pos) tA:=by
 intro wh pins s σ H Q I h
 refine isTrue_and (cF (ha pins s σ H Q I h) fun c s1 e=>?_)
 cases c with
 | true=>exact isTrue_and_nil e
 | false=>exact e
theorem pw_or1 (ha:PT X a tA):PW X (.BoolOp .Or [a] pos) tA:=by
 intro wh pins s σ H Q I h
 refine isTrue_or (cF (ha pins s σ H Q I h) fun c s1 e=>?_)
 cases c with
 | false=>exact isTrue_or_nil e
 | true=>exact e
theorem pw_and (ha:PT X a tA) (hb:PW X (.BoolOp .And (b::rest) pos) XD):PW X (.BoolOp .And (a::b::rest) pos) (VF tA XD):=by
 intro wh pins s σ H Q I h
 refine isTrue_and (cF (ha pins s σ H _ I h) fun c s1 aR=>?_)
 obtain ⟨H1,I1,q1⟩:=aR
 cases c with
 | true=>exact hb wh pins s1 σ H1 Q I1 q1
 | false=>exact ⟨H1,I1,q1⟩
theorem pw_or (ha:PT X a tA) (hb:PW X (.BoolOp .Or (b::rest) pos) XD):PW X (.BoolOp .Or (a::b::rest) pos) (tOr tA XD):=by
 intro wh pins s σ H Q I h
 refine isTrue_or (cF (ha pins s σ H _ I h) fun c s1 aR=>?_)
 obtain ⟨H1,I1,q1⟩:=aR
 cases c with
 | true=>exact ⟨H1,I1,q1⟩
 | false=>exact hb wh pins s1 σ H1 Q I1 q1
theorem S8 (ha:PT X a tA):PT X (.UnaryOp .Not a pos) (Yq tA):=by
 intro pins s σ H Q I h
 exact isTrue_not (ha pins s σ H (fun c H1=>Q (!c) H1) I h)
noncomputable def VG (ta tb:TE):TE:=fun σ H Q=>ta σ H fun x H1=>∃c,x=.bl c∧if c=true then tb σ H1 Q else Q (.bl false) H1
noncomputable def VH (ta:TE):TE:=fun σ H Q=>ta σ H fun x H1=>∃c,x=.bl c∧Q (.bl (!c)) H1
theorem S9 {op} {t:TE} (h:PE X a t):PE X (.BoolOp op [a] pos) t:=fun pins s σ H Q I hw=>BoolOp_one (h pins s σ H Q I hw)
theorem Tc (ha:PE X a ta) (hb:PE X (.BoolOp .And (b::rest) pos) tb):PE X (.BoolOp .And (a::b::rest) pos) (VG ta tb):=by
 intro pins s σ H Q I h
 refine BoolOp_and (cF (ha pins s σ H _ I h) fun v s1 aR=>?_)
 obtain ⟨x,H1,I1,r1,q1⟩:=aR
 obtain ⟨c,rfl,q1⟩:=q1
 cases r1
 refine wpAny_truthy_bool ?_
 cases c with
 | true=>exact hb pins s1 σ H1 Q I1 q1
 | false=>exact ⟨.bl false,H1,I1,rfl,q1⟩
theorem Td (ha:PE X a ta):PE X (.UnaryOp .Not a pos) (VH ta):=by
 intro pins s σ H Q I h
 refine UnaryOp_ (cF (ha pins s σ H _ I h) fun v s1 aR=>?_)
 obtain ⟨x,H1,I1,r1,q1⟩:=aR
 obtain ⟨c,rfl,q1⟩:=q1
 cases r1
 exact not_of (wpAny_truthy_bool ⟨.bl (!c),H1,I1,rfl,q1⟩)
noncomputable def tIf (t:TT) (ta tb:TE):TE:=fun σ H Q=>t σ H fun c H1=>if c=true then ta σ H1 Q else tb σ H1 Q
theorem JP {c:Expr} (hc:PT X c tA) (ha:PE X a ta) (hb:PE X b tb):PE X (.IfExp c a b pos) (tIf tA ta tb):=by
 intro pins s σ H Q I h
 refine wpAny_IfExp (cF (hc pins s σ H _ I h) fun d s1 aR=>?_)
 obtain ⟨H1,I1,q1⟩:=aR
 cases d with
 | true=>exact ha pins s1 σ H1 Q I1 q1
 | false=>exact hb pins s1 σ H1 Q I1 q1
end
end L2
namespace L2
open PySem PySem.Spec PyProof.Rows
noncomputable def cJ (K:PySem.W.Frag) (H:Hp) (a:Addr) (xs:List V):Prop:=
 Rd H a (.lst xs)∨
  ∃(o:Obj) (its:Array Value) (n:Nat),K.lookup a=some o∧o.cls=.type "list"∧o.dict=none∧o.data=.seq its n∧its.size≤sizeLine∧Vals xs its.toList
noncomputable def gw (K:PySem.W.Frag) (H:Hp) (a:Addr) (xs:List V):Prop:=
 Rd H a (.tup xs)∨
  ∃(o:Obj) (its:Array Value) (n:Nat),K.lookup a=some o∧o.cls=.type "tuple"∧o.data=.seq its n∧its.size≤sizeLine∧Vals xs its.toList
noncomputable def Yr:Value→Option V
 | .none=>some .non
 | .bool b=>some (.bl b)
 | .int i _=>some (.int i)
 | .str x _=>some (.str x)
 | .bytes b _=>some (.Hv b)
 | .float b _=>some (.flt b)
 | .ref a=>some (.ref a)
 | .type n=>some (.ty n)
 | _=>none
theorem RelV.abs {x:V} {u:Value} (r:RelV x u):Yr u=some x:=by
 cases x with
 | non=>cases r; rfl
 | bl _=>cases r; rfl
 | int _=>obtain ⟨t,rfl⟩:=r; rfl
 | str _=>obtain ⟨t,rfl⟩:=r; rfl
 | Hv _=>obtain ⟨t,rfl⟩:=r; rfl
 | flt _=>obtain ⟨t,rfl⟩:=r; rfl
 | ref _=>cases r; rfl
 | ty _=>cases r; rfl
theorem RelV.inj {x y:V} {u:Value} (r:RelV x u) (q:RelV y u):x=y:=Option.some.inj (r.abs.symm.trans q.abs)
theorem Vals.inj:∀{xs ys:List V} {us:List Value},Vals xs us→Vals ys us→xs=ys
 | _,_,_,.nil,.nil=>rfl
 | _,_,_,.cons r t,.cons r' t'=>by rw [r.inj r',Vals.inj t t']
section
variable {X:Cx} {pins:List (Addr×Obj)} {σ:St} {H:Hp} {s:Shared} {a:Addr} {xs ys:List V}
theorem cJ.of {K:PySem.W.Frag} (h:H a=some (.lst xs)):cJ K H a xs:=.inl (.inl h)
theorem gw.of {K:PySem.W.Frag} (h:H a=some (.tup xs)):gw K H a xs:=.inl (.inl h)
theorem Inv.list (I:Inv X pins σ H s) (h:cJ X.K H a xs):∃its:List Value,Vals xs its∧PlainL s.heap a its.toArray∧xs.length≤sizeLine:=by
 rcases h with h | ⟨o,its,n,hk,hc,hd,hs,hz,r⟩
 ·obtain ⟨z,its,n,r,e⟩:=h.ok I.hok
  exact ⟨its,r,⟨_,n,e,rfl,rfl,rfl⟩,z⟩
 ·refine ⟨its.toList,r,⟨o,n,I.p6 a o hk,hc,hd,by simpa using hs⟩,?_⟩
  have e:=r.length
  simp only [Array.length_toList] at e
  omega
theorem Inv.tuple (I:Inv X pins σ H s) (h:gw X.K H a xs):∃its:List Value,Vals xs its∧IsTup s.heap a its.toArray∧xs.length≤sizeLine:=by
 rcases h with h | ⟨o,its,n,hk,hc,hs,hz,r⟩
 ·obtain ⟨z,its,r,p⟩:=h.ok I.hok
  exact ⟨its,r,p,z⟩
 ·refine ⟨its.toList,r,⟨o,I.p6 a o hk,hc,n,by simpa using hs⟩,?_⟩
  have e:=r.length
  simp only [Array.length_toList] at e
  omega
theorem Inv.tY (I:Inv X pins σ H s) (h:cJ X.K H a xs) (h':cJ X.K H a ys):xs=ys:=by
 obtain ⟨its,r,⟨o,n,e,_,_,d⟩,_⟩:=I.list h
 obtain ⟨its',r',⟨o',n',e',_,_,d'⟩,_⟩:=I.list h'
 rw [e] at e'; cases e'
 rw [d] at d'
 injection d' with d1 _
 have:its=its':=by simpa using congrArg Array.toList d1
 subst this
 exact r.inj r'
theorem Inv.Hz (I:Inv X pins σ H s) (h:gw X.K H a xs) (h':gw X.K H a ys):xs=ys:=by
 obtain ⟨its,r,⟨o,e,_,n,d⟩,_⟩:=I.tuple h
 obtain ⟨its',r',⟨o',e',_,n',d'⟩,_⟩:=I.tuple h'
 rw [e] at e'; cases e'
 rw [d] at d'
 injection d' with d1 _
 have:its=its':=by simpa using congrArg Array.toList d1
 subst this
 exact r.inj r'
end
noncomputable abbrev Cx.wish (X:Cx) (E:Value→Shared→Prop):Cx:={ X with xe:=E }
noncomputable abbrev Cx.Og (X:Cx):Cx:=X.wish fun _ _=>False
theorem Cx.Ok.wish {X:Cx} (ok:X.Ok) (E:Value→Shared→Prop):(X.wish E).Ok:=
 ⟨ok.mod,ok.kind,ok.glob,ok.blt,ok.above,ok.inj,ok.has,ok.cab,ok.hd,ok.frames,ok.stk,ok.exf,ok.bs,ok.NK,ok.JN,ok.Od,ok.sI,ok.SQ⟩
theorem Cx.Ok.iZ {X:Cx} {E:Value→Shared→Prop} (ok:(X.wish E).Ok):X.Ok:=
 ⟨ok.mod,ok.kind,ok.glob,ok.blt,ok.above,ok.inj,ok.has,ok.cab,ok.hd,ok.frames,ok.stk,ok.exf,ok.bs,ok.NK,ok.JN,ok.Od,ok.sI,ok.SQ⟩
section
variable {X:Cx} {pins:List (Addr×Obj)} {σ:St} {H:Hp} {s:Shared} {E:Value→Shared→Prop}
theorem Inv.wish (I:Inv X pins σ H s) (E:Value→Shared→Prop):Inv (X.wish E) pins σ H s:=⟨I.ok.wish E,I.os,I.bare,I.base,I.loc,I.cell,I.free,I.kj,I.pin,I.hok,I.len⟩
theorem Inv.iZ (I:Inv (X.wish E) pins σ H s):Inv X pins σ H s:=⟨I.ok.iZ,I.os,I.bare,I.base,I.loc,I.cell,I.free,I.kj,I.pin,I.hok,I.len⟩
theorem SP.iZ {D:Ends} {f:Flow} {s':Shared} (h:SP (X.wish E) pins D f s'):SP X pins D f s':=by
 cases f with
 | next=>obtain ⟨σ',H',I,q⟩:=h; exact ⟨σ',H',I.iZ,q⟩
 | brk=>obtain ⟨σ',H',I,q⟩:=h; exact ⟨σ',H',I.iZ,q⟩
 | cont=>obtain ⟨σ',H',I,q⟩:=h; exact ⟨σ',H',I.iZ,q⟩
 | ret u=>obtain ⟨v,σ',H',I,r,q⟩:=h; exact ⟨v,σ',H',I.iZ,r,q⟩
theorem PE.Og {e:Expr} {t:TE} (h:PE X.Og e t):PE X e t:=fun pins s σ H Q I hw=>
 wpAny_mono (h pins s σ H Q (I.wish _) hw) (fun _ _ ⟨v,H',I',r,q⟩=>⟨v,H',I'.iZ,r,q⟩) fun _ _ z=>False.elim z
theorem PT.Og {e:Expr} {t:TT} (h:PT X.Og e t):PT X e t:=fun pins s σ H Q I hw=>
 wpAny_mono (h pins s σ H Q (I.wish _) hw) (fun _ _ ⟨H',I',q⟩=>⟨H',I'.iZ,q⟩) fun _ _ z=>False.elim z
theorem sJ.Og {st:List Stmt} {t:TS} (h:sJ X.Og st t):sJ X st t:=fun pins s σ H D I hw=>
 wpAny_mono (h pins s σ H D (I.wish _) hw) (fun _ _ q=>q.iZ) fun _ _ z=>False.elim z
end
section
variable {X:Cx} {st:Stmt} {rest:List Stmt} {t u:TS} {e:Expr} {te:TE} {pos:Pos}
noncomputable def VJ:TS:=fun D σ H=>D.nx σ H
noncomputable def VL (t u:TS):TS:=fun D σ H=>t { D with nx:=u D } σ H
theorem Oh:sJ X [] VJ:=fun _ _ σ H _ I h=>wpAny_execs_nil ⟨σ,H,I,h⟩
theorem JQ (h1:PS X st t) (h2:sJ X rest u):sJ X (st::rest) (VL t u):=by
 intro pins s σ H D I h
 refine wpAny_execs_cons (cF (h1 pins s σ H { D with nx:=u D } I h) fun f s1 q=>?_)
 cases f with
 | next=>
  obtain ⟨σ',H',I',q⟩:=q
  exact h2 pins s1 σ' H' D I' q
 | ret v=>exact q
 | brk=>exact q
 | cont=>exact q
theorem Oi (h1:PS X st t):sJ X [st] t:=by
 intro pins s σ H D I h
 refine wpAny_execs_cons (cF (h1 pins s σ H D I h) fun f s1 q=>?_)
 cases f with
 | next=>exact wpAny_execs_nil q
 | ret v=>exact q
 | brk=>exact q
 | cont=>exact q
theorem Inv.quiet {pins:List (Addr×Obj)} {σ:St} {H:Hp} {s:Shared} (I:Inv X pins σ H s):interactive X.env=false:=by simp [interactive,I.ok.kind]
noncomputable def VM (te:TE):TS:=fun D σ H=>te σ H fun _ H1=>D.nx σ H1
theorem Fb (he:PE X e te) (hs:swapsWith e none pos.line X.env=pure false:=by rfl):PS X (.Expr e pos) (VM te):=by
 intro pins s σ H D I h
 exact wpAny_Expr_any (cF (he pins s σ H _ I h) fun v s1 ⟨x,H1,I1,r1,q1⟩=>⟨σ,H1,I1,q1⟩) I.quiet hs
noncomputable def Ys (te:TE):TS:=fun D σ H=>te σ H D.rt
theorem JR (he:PE X e te):PS X (.Return (some e) pos) (Ys te):=by
 intro pins s σ H D I h
 exact wpAny_Return_some (cF (he pins s σ H _ I h) fun v s1 ⟨x,H1,I1,r1,q1⟩=>⟨x,σ,H1,I1,r1,q1⟩)
noncomputable def Yt (c:TT) (t u:TS):TS:=fun D σ H=>c σ H fun b H1=>if b=true then t D σ H1 else u D σ H1
theorem VN {c:Expr} {a b:List Stmt} {tc:TT} (hc:PT X c tc) (ha:sJ X a t) (hb:sJ X b u):PS X (.If c a b pos) (Yt tc t u):=by
 intro pins s σ H D I h
 refine wpAny_If (cF (hc pins s σ H _ I h) fun d s1 aR=>?_)
 obtain ⟨H1,I1,q1⟩:=aR
 cases d with
 | true=>exact ha pins s1 σ H1 D I1 q1
 | false=>exact hb pins s1 σ H1 D I1 q1
end
noncomputable abbrev TG:=V→St→Hp→(St→Hp→Prop)→Prop
noncomputable abbrev JS:=List V→St→Hp→(St→Hp→Prop)→Prop
noncomputable def PG (X:Cx) (target:Expr) (t:TG):Prop:=
 ∀(pins:List (Addr×Obj)) (s:Shared) (σ:St) (H:Hp) (v:V) (u:Value) (Q:St→Hp→Prop),Inv X pins σ H s→RelV v u→t v σ H Q→
  wpAny (model X.prog X.w) X.A (assign target X.env u) (fun _ s'=>∃σ' H',Inv X pins σ' H' s'∧Q σ' H') X.xe s
noncomputable def XF (X:Cx) (ts:List Expr) (t:JS):Prop:=
 ∀(pins:List (Addr×Obj)) (s:Shared) (σ:St) (H:Hp) (vs:List V) (us:List Value) (Q:St→Hp→Prop),Inv X pins σ H s→Vals vs us→t vs σ H Q→
  wpAny (model X.prog X.w) X.A (assignInOrder ((assignEach ts X.env).map (·.2)) us) (fun _ s'=>∃σ' H',Inv X pins σ' H' s'∧Q σ' H') X.xe s
noncomputable abbrev Oj:=V→V→V→Hp→(Hp→Prop)→Prop
noncomputable def yp (X:Cx) (t:Oj):Prop:=
 ∀(pins:List (Addr×Obj)) (s:Shared) (σ:St) (H:Hp) (o i v:V) (ov iv u:Value) (Q:Hp→Prop),Inv X pins σ H s→RelV o ov→RelV i iv→RelV v u→t o i v H Q→
  wpAny (model X.prog X.w) X.A (setItem ov iv u) (fun _ s'=>∃H',Inv X pins σ H' s'∧Q H') X.xe s
section
variable {X:Cx} {pos:Pos}
noncomputable def rA (i:Nat):TG:=fun v σ H Q=>Q (σ.set i (some v)) H
theorem b7 {i:Nat} {x:Str} (hN:X.N.Nodup) (hi:X.N[i]?=some x) (hx:Loc X.env.scope x) (hf:X.fn x=true∨X.env.scope.names.lookup x=some .local:=by first | exact .inl rfl | exact .inr rfl | assumption):PG X (.Name x pos) (rA i):=by
 intro pins s σ H v u Q I r h
 exact wpAny_assign_Name (jn I hN hi hx r (fun s' I'=>⟨_,H,I',h⟩) hf)
noncomputable def Te:JS:=fun vs σ H Q=>vs=[]∧Q σ H
noncomputable def JT (t:TG) (u:JS):JS:=fun vs σ H Q=>∃v r,vs=v::r∧t v σ H fun σ' H'=>u r σ' H' Q
theorem yq:XF X [] Te:=by
 intro pins s σ H vs us Q I r h
 obtain ⟨e,h⟩:=h
 subst e
 cases r
 exact assignInOrder_nil ⟨σ,H,I,h⟩
theorem fV {e:Expr} {es:List Expr} {t:TG} {u:JS} (h1:PG X e t) (h2:XF X es u)
  (hs:(assignEach (e::es) X.env).map (·.2)=assign e X.env::(assignEach es X.env).map (·.2):=by rfl):XF X (e::es) (JT t u):=by
 intro pins s σ H vs us Q I r h
 obtain ⟨v,vr,e1,h⟩:=h
 subst e1
 cases r with
 | cons r rr=>
  rw [hs]
  refine assignInOrder_cons (cF (h1 pins s σ H _ _ _ I r h) fun _ s1 aR=>?_)
  obtain ⟨σ1,H1,I1,q1⟩:=aR
  exact h2 pins s1 σ1 H1 _ _ Q I1 rr q1
noncomputable def Tf (K:PySem.W.Frag) (n:Nat) (t:JS):TG:=fun v σ H Q=>∃a xs,v=.ref a∧gw K H a xs∧xs.length=n∧t xs σ H Q
theorem Cm {es:List Expr} {k:Nat} {t:JS} {n:Nat} (hc:X.calm=true) (h:XF X es t)
  (hn:(assignEach es X.env).length=n:=by rfl) (hst:(assignEach es X.env).findIdx? (·.1)=none:=by rfl):PG X (.Tuple es k pos) (Tf X.K n t):=by
 intro pins s σ H v u Q I r hw
 obtain ⟨a,xs,e1,hq,hl,hw⟩:=hw
 subst e1
 cases r
 obtain ⟨its,rv,ht,hz⟩:=I.tuple hq
 refine assign_Tuple_tuple (I.ok.hd hc) ht (by simp [hn,←hl,rv.length]) hst fun h' hx=>?_
 have I1:Inv X pins σ H { s with heap:=h' }:=I.kept (t':=s.toks) fun b o e=>hx b o (Nat.ne_of_lt (Heap.lt_size e)) e
 exact h pins _ σ H xs _ Q I1 (by simpa using rv) hw
noncomputable def Yu (to ti:TE) (t:Oj):TG:=fun v σ H Q=>to σ H fun o H1=>ti σ H1 fun i H2=>t o i v H2 fun H3=>Q σ H3
theorem Tg {o i:Expr} {to ti:TE} {t:Oj} (ho:PE X o to) (hi:PE X i ti) (hs:yp X t)
  (ha:∀v,assign (.Subscript o i pos) X.env v=(do
   let ov ←holding [v] (eval o X.env)
   let iv ←holding [v,ov] (eval i X.env)
   standAt pos
   holding [v,ov,iv] (setItem ov iv v)
   release [v,ov,iv] []):=by intro _; rfl):PG X (.Subscript o i pos) (Yu to ti t):=by
 intro pins s σ H v u Q I r h
 rw [ha]
 refine wpAny_bind (wpAny_holding (cF (ho pins s σ H _ I h) fun ov s1 aR=>?_))
 obtain ⟨x,H1,I1,r1,q1⟩:=aR
 refine wpAny_bind (wpAny_holding (cF (hi pins s1 σ H1 _ I1 q1) fun iv s2 aR=>?_))
 obtain ⟨y,H2,I2,r2,q2⟩:=aR
 refine wpAny_bind (wpAny_standAt (wpAny_bind (wpAny_holding (cF (hs pins s2 σ H2 x y v ov iv u _ I2 r1 r2 r q2) fun _ s3 aR=>?_))))
 obtain ⟨H3,I3,q3⟩:=aR
 exact wpAny_release ⟨σ,H3,I3,q3⟩
noncomputable def HB (te:TE) (g:TG):TS:=fun D σ H=>te σ H fun x H1=>g x σ H1 D.nx
theorem Cp {tg e:Expr} {te:TE} {g:TG} (he:PE X e te) (hg:PG X tg g) (hs:swapsWithSole [tg] e pos.line X.env=pure false:=by rfl) (hw:swappedStores [tg] e X.env=pure none:=by rfl)
  (h1:(assignEach [tg] X.env).map (·.2)=[assign tg X.env]:=by rfl):PS X (.Assign [tg] e pos) (HB te g):=by
 intro pins s σ H D I h
 refine wpAny_Assign_stores (cF (he pins s σ H _ I h) fun v s1 aR=>?_) hs hw
 obtain ⟨x,H1,I1,r1,q1⟩:=aR
 rw [h1]
 exact cF (hg pins s1 σ H1 x v _ I1 r1 q1) fun _ s2 q=>q
theorem JV {i:Nat} {x:Str} {e:Expr} {te:TE} {pos':Pos} (hN:X.N.Nodup) (hi:X.N[i]?=some x) (hx:Loc X.env.scope x) (he:PE X e te) (hs:swapsWith e (some (.Name x pos')) pos.line X.env=pure false:=by rfl) (hf:X.fn x=true∨X.env.scope.names.lookup x=some .local:=by first | exact .inl rfl | exact .inr rfl | assumption):
  PS X (.Assign [.Name x pos'] e pos) (HB te (rA i)):=by
 intro pins s σ H D I h
 refine wpAny_Assign_Name (cF (he pins s σ H _ I h) fun v s1 aR=>?_) hs
 obtain ⟨y,H1,I1,r1,q1⟩:=aR
 exact jn I1 hN hi hx r1 (fun s2 I2=>⟨_,H1,I2,q1⟩) hf
noncomputable def Yv (i j:Nat) (ta:TA):TS:=fun D σ H=>ta σ H fun vs H1=>∃v w,vs=[v,w]∧D.nx ((σ.set i (some v)).set j (some w)) H1
theorem Th {i j:Nat} {x y:Str} {a b:Expr} {ta:TA} {px py pt:Pos} {kt k2 Ti} (hc:X.calm=true) (hN:X.N.Nodup) (hi:X.N[i]?=some x) (hj:X.N[j]?=some y) (hij:i≠j)
  (hx:X.env.scope.names.lookup x=some .local) (hy:X.env.scope.names.lookup y=some .local) (ha:PA X [a,b] ta)
  (hw:swappedStores [.Tuple [.Name x px,.Name y py] kt pt] (.Tuple [a,b] k2 Ti) X.env=pure (some [x,y]))
  (hs:swapsWithSole [.Tuple [.Name x px,.Name y py] kt pt] (.Tuple [a,b] k2 Ti) pos.line X.env=pure false:=by rfl):
  PS X (.Assign [.Tuple [.Name x px,.Name y py] kt pt] (.Tuple [a,b] k2 Ti) pos) (Yv i j ta):=by
 intro pins s σ H D I h
 rw [exec_Assign_arm]
 refine wpAny_bind (wpAny_standAt ?_)
 rw [hs]
 refine wpAny_bind (wpAny_pure ?_)
 rw [if_neg (by decide)]
 refine wpAny_bind (Tuple_ (cF (ha _ pins s σ H _ I h) fun us s1 aR=>?_))
 obtain ⟨vs,H1,I1,r1,q1⟩:=aR
 obtain ⟨v,w,e1,q1⟩:=q1
 subst e1
 obtain ⟨u1,u2,rfl,rv,rw'⟩:∃u1 u2,us=[u1,u2]∧RelV v u1∧RelV w u2:=by
  cases r1 with
  | cons p q=>
   cases q with
   | cons p' q'=>
    cases q'
    exact ⟨_,_,rfl,p,p'⟩
 refine wpAny_newObj_type ?_ (by show 2≤sizeLine; decide)
 have I2:Inv X pins σ H1 { s1 with heap:=s1.heap.push { cls:=.type "tuple",data:=.seq [u1,u2].toArray } }:=I1.kept (t':=s1.toks) fun b o e=>Heap.get?_push_of_some _ e
 rw [hw]
 refine wpAny_bind (wpAny_pure ?_)
 show wpAny (model X.prog X.w) X.A (do rule "assign.swapped-stores"; let items ←unpackItems (.ref s1.heap.objs.size) 2 none; assignInOrder [fun v=>bindName X.env y v,fun v=>bindName X.env x v] items.reverse; pure Flow.next) _ _ _
 refine wpAny_bind (wpAny_rule (wpAny_bind (unpackItems_tuple (items:=#[u1,u2]) (I.ok.hd hc) (IsTup.new s1.heap _) fun h' hx'=>?_)))
 have I3:=I2.kept (h':=h') (t':=s1.toks) fun b o e=>hx' b o (Nat.ne_of_lt (Heap.lt_size e)) e
 show wpAny _ _ (assignInOrder [fun v=>bindName X.env y v,fun v=>bindName X.env x v] [u2,u1] >>= fun _=>pure Flow.next) _ _ _
 refine wpAny_bind (assignInOrder_cons (wpAny_bindName (jn I3 hN hj (.inl hy) rw' (fun s2 I4=>?_) (.inr hy))))
 refine assignInOrder_cons (wpAny_bindName (jn I4 hN hi (.inl hx) rv (fun s3 I5=>assignInOrder_nil (wpAny_pure ?_)) (.inr hx)))
 rw [List.set_comm _ _ (Ne.symm hij)] at I5
 exact ⟨_,H1,I5,q1⟩
end
section
variable {X:Cx} {pos:Pos}
noncomputable def JW (c:TT) (tb:TS):TS:=fun D σ H=>∃W:Nat→St→Hp→Prop,(∃m,W m σ H)∧∀m σ H,W m σ H→
 c σ H fun b H1=>if b=true then ∃N:St→Hp→Prop,(∀σ' H',N σ' H'→∃m',m' < m∧W m' σ' H')∧tb { D with nx:=N,ct:=N,bk:=D.nx } σ H1 else D.nx σ H1
theorem JX {c:Expr} {body:List Stmt} {tc:TT} {tb:TS} (hp:PassesOwn (model X.prog X.w) X.A X.env X.xe) (hc:PT X c tc) (hb:sJ X body tb):PS X (.While c body [] pos) (JW tc tb):=by
 intro pins s σ H D I h
 obtain ⟨W,⟨m0,w0⟩,turn⟩:=h
 refine wpAny_While (codeAny_whileLoop (fun n s'=>∃σ' H',Inv X pins σ' H' s'∧W n σ' H') ?_ m0 ⟨σ,H,I,w0⟩)
 rintro n s1 ⟨σ1,H1,I1,w1⟩
 refine wpAny_passesOwn hp (cF (hc pins s1 σ1 H1 _ I1 (turn n σ1 H1 w1)) fun b s2 aR=>?_)
 obtain ⟨H2,I2,q2⟩:=aR
 cases b with
 | true=>
  obtain ⟨N,hN,q2⟩:=q2
  rw [if_pos rfl]
  refine wpAny_passesOwn hp (cF (hb pins s2 σ1 H2 _ I2 q2) fun f s3 q3=>?_)
  cases f with
  | next=>
   obtain ⟨σ3,H3,I3,n3⟩:=q3
   obtain ⟨m',hm,w3⟩:=hN σ3 H3 n3
   exact ⟨m',hm,σ3,H3,I3,w3⟩
  | cont=>
   obtain ⟨σ3,H3,I3,n3⟩:=q3
   obtain ⟨m',hm,w3⟩:=hN σ3 H3 n3
   exact ⟨m',hm,σ3,H3,I3,w3⟩
  | brk=>exact q3
  | ret v=>exact q3
 | false=>
  rw [if_neg Bool.false_ne_true]
  exact wpAny_execs_nil ⟨σ1,H2,I2,q2⟩
end
structure It where
 go:Nat→Hp→Prop
 Rk:Nat→Hp→V→Hp→Prop
 stop:Nat→Hp→Prop
noncomputable def iu (X:Cx) (pins:List (Addr×Obj)) (H:Hp) (b:Addr):Prop:=
 H b=none∧b≠X.env.locals∧b∉X.fs∧(b∈X.ex∨X.s₀.heap.objs.size≤b)∧(∀x c,X.env.cells.lookup x=some c→c≠b)∧∀p∈X.pn++pins,p.1≠b
theorem Inv.yr {X:Cx} {pins:List (Addr×Obj)} {σ:St} {H H':Hp} {s:Shared} {b:Addr} (I:Inv X pins σ H s) (hb:s.heap.objs.size≤b) (hn:H' b=none):iu X pins H' b:=by
 refine ⟨hn,Nat.ne_of_gt (Nat.lt_of_lt_of_le I.lt hb),I.Yo hb,.inr (Nat.le_trans I.sz hb),fun x c e z=>?_,fun p hp z=>?_⟩
 ·obtain ⟨v,q⟩:=I.cell x c e
  exact absurd (Nat.lt_of_lt_of_le q.lt (by rw [z]; exact hb)) (Nat.lt_irrefl _)
 ·exact absurd (Nat.lt_of_lt_of_le (Heap.lt_size (I.pin p hp).1) (by rw [z]; exact hb)) (Nat.lt_irrefl _)
structure Turn (P:Program) (w:World) (K:PySem.W.Frag) (tg:Expr) (J:It) (fp:List Addr) (it:Addr) (tn:Nat→Heap→Prop):Prop where
 mem:it∈fp
 obj:∀i h,tn i h→∀b∈fp,∃o,h.get? b=some o∧∀v,o.data≠.cell v
 keep:∀i h h',tn i h→(∀b∈fp,∀o,h.get? b=some o→h'.get? b=some o)→tn i h'
 item:∀(X:Cx),X.prog=P→X.w=w→X.K=K→X.calm=true→∀(i:Nat) (pins:List (Addr×Obj)) (s:Shared) (σ:St) (H:Hp) (E:Value→Shared→Prop),Inv X pins σ H s→(∀b∈fp,iu X pins H b)→tn i s.heap→J.go i H→
  wpAny (model P w) X.A (pyNext (.ref it)) (fun r s1=>∃u,r=some u∧
   wpAny (model P w) X.A (letOwnedTupleGo tg (.ref it) u) (fun _ s2=>∃x H',Inv X pins σ H' s2∧RelV x u∧J.Rk i H x H'∧tn (i + 1) s2.heap∧∀b∈fp,H' b=none) E s1) E s
 done:∀(X:Cx),X.prog=P→X.w=w→X.K=K→X.calm=true→∀(i:Nat) (pins:List (Addr×Obj)) (s:Shared) (σ:St) (H:Hp) (E:Value→Shared→Prop),Inv X pins σ H s→(∀b∈fp,iu X pins H b)→tn i s.heap→J.stop i H→
  wpAny (model P w) X.A (pyNext (.ref it)) (fun r s1=>r=none∧Inv X pins σ H s1) E s
 self:∀(A:Around) (i:Nat) (s:Shared) (Q:Value→Shared→Prop) (E:Value→Shared→Prop),tn i s.heap→Q (.ref it) s→wpAny (model P w) A (pyIter (.ref it)) Q E s
noncomputable abbrev TI:=St→Hp→(It→Hp→Prop)→Prop
noncomputable def PIE (X:Cx) (pins:List (Addr×Obj)) (σ:St) (tg:Expr) (R:It→Hp→Prop) (itv:Value) (s2:Shared):Prop:=
 ∃(it:Addr) (fp:List Addr) (tn:Nat→Heap→Prop) (J:It) (H':Hp),itv=.ref it∧Inv X pins σ H' s2∧Turn X.prog X.w X.K tg J fp it tn∧tn 0 s2.heap∧(∀b∈fp,iu X pins H' b)∧R J H'
noncomputable def PI (X:Cx) (tg iter:Expr) (wi:TI):Prop:=
 ∀(pins:List (Addr×Obj)) (s:Shared) (σ:St) (H:Hp) (R:It→Hp→Prop),Inv X pins σ H s→wi σ H R→
  wpAny (model X.prog X.w) X.A (eval iter X.env) (fun v s1=>wpAny (model X.prog X.w) X.A (pyIter v) (PIE X pins σ tg R) X.xe s1) X.xe s
theorem Fd {M:Model} {A:Around} {E:Value→Shared→Prop} {s:Shared} {tg:Expr} {it:Addr} {u:Value} {o:Obj} {n:String} {vs:Array Value} {Q:Unit→Shared→Prop} (ho:s.heap.get? it=some o) (hc:o.cls=.type n) (hd:o.data=.fields vs)
  (hn:["enumerate","zip","dict_itemiterator","dict_reverseitemiterator","odict_iterator","itertools.zip_longest","itertools.pairwise"].contains n=false) (hQ:Q () s):wpAny M A (letOwnedTupleGo tg (.ref it) u) Q E s:=by
 unfold letOwnedTupleGo
 cases tg <;> first
  | exact wpAny_pure hQ
  | (cases u <;> first
    | exact wpAny_pure hQ
    | (refine wpAny_bind (wpAny_load ho ?_)
       rw [hc,hd]
       show wpAny M A (if (["enumerate","zip","dict_itemiterator","dict_reverseitemiterator","odict_iterator","itertools.zip_longest","itertools.pairwise"].contains n&&vs[0]?==some (rawInt _))=true then _ else _) Q E s
       rw [if_neg (by intro h; rw [hn,Bool.false_and] at h; cases h)]
       exact wpAny_pure hQ))
noncomputable def Yw (K:PySem.W.Frag) (a:Addr):It:=
 ⟨fun i H=>∃xs x,cJ K H a xs∧xs[i]?=some x,fun i H x H'=>H'=H∧∀xs,cJ K H a xs→xs[i]?=some x,fun i H=>∃xs,cJ K H a xs∧xs.length≤i⟩
noncomputable def Yx (K:PySem.W.Frag) (a:Addr):It:=
 ⟨fun i H=>∃xs x,gw K H a xs∧xs[i]?=some x,fun i H x H'=>H'=H∧∀xs,gw K H a xs→xs[i]?=some x,fun i H=>∃xs,gw K H a xs∧xs.length≤i⟩
noncomputable def XH (lo:Int) (n:Nat):It:=⟨fun i _=>i < n,fun i H x H'=>H'=H∧x=.int (lo + i),fun i _=>n≤i⟩
theorem HD {P:Program} {w:World} {K:PySem.W.Frag} {tg:Expr} (a it:Addr):Turn P w K tg (Yw K a) [it] it (fun i h=>h.IsListIter it a i) where
 mem:=by simp
 obj:=fun i h st b hb=>by
  have e:b=it:=by simpa using hb
  subst e
  obtain ⟨o,e,c,d⟩:=st
  exact ⟨o,e,fun v z=>by rw [d] at z; cases z⟩
 keep:=fun i h h' st k=>st.at fun o e=>k it (by simp) o e
 item:=by
  intro X hP hw hK hc i pins s σ H E I hf st hg
  subst hP hw hK
  obtain ⟨xs,x,hq,hx⟩:=hg
  obtain ⟨its,rv,p,hz⟩:=I.list hq
  obtain ⟨u,hu,ru⟩:=rv.get hx
  obtain ⟨f0,f1,f2,f3,f4,f5⟩:=hf it (by simp)
  refine wpAny_pyNext_list_item st p.isList (x:=u) (by simpa using hu) fun h' st' sb=>?_
  have I1:Inv X pins σ H { s with heap:=h' }:=I.turned (t':=s.toks) (fun b o hb e=>(sb.2 b hb).trans e) f0 f1 f3 f4 f5
  obtain ⟨o,e,c,d⟩:=id st'
  exact ⟨u,rfl,Fd (s:={ s with heap:=h' }) e c d (by decide) ⟨x,H,I1,ru,⟨rfl,fun ys hy=>by rw [I.tY hy hq]; exact hx⟩,st',fun b hb=>(hf b hb).1⟩⟩
 done:=by
  intro X hP hw hK hc i pins s σ H E I hf st hg
  subst hP hw hK
  obtain ⟨xs,hq,hx⟩:=hg
  obtain ⟨its,rv,p,hz⟩:=I.list hq
  obtain ⟨f0,f1,f2,f3,f4,f5⟩:=hf it (by simp)
  have hl:=rv.length
  exact wpAny_pyNext_list_end (I.ok.hd hc) st p.isList (by simp; omega) fun h' eb=>⟨rfl,I.turned (t':=s.toks) (fun b o hb e=>eb b o hb e) f0 f1 f3 f4 f5⟩
 self:=fun _ _ _ _ _ st h=>wpAny_pyIter_listiter st h
theorem Cq {P:Program} {w:World} {K:PySem.W.Frag} {tg:Expr} (a it:Addr):Turn P w K tg (Yx K a) [it] it (fun i h=>h.IsTupleIter it a i) where
 mem:=by simp
 obj:=fun i h st b hb=>by
  have e:b=it:=by simpa using hb
  subst e
  obtain ⟨o,e,c,d⟩:=st
  exact ⟨o,e,fun v z=>by rw [d] at z; cases z⟩
 keep:=fun i h h' st k=>st.at fun o e=>k it (by simp) o e
 item:=by
  intro X hP hw hK hc i pins s σ H E I hf st hg
  subst hP hw hK
  obtain ⟨xs,x,hq,hx⟩:=hg
  obtain ⟨its,rv,p,hz⟩:=I.tuple hq
  obtain ⟨u,hu,ru⟩:=rv.get hx
  obtain ⟨f0,f1,f2,f3,f4,f5⟩:=hf it (by simp)
  refine wpAny_pyNext_tuple_item st (show s.heap.IsTuple a its.toArray from p) (x:=u) (by simpa using hu) fun h' st' sb=>?_
  have I1:Inv X pins σ H { s with heap:=h' }:=I.turned (t':=s.toks) (fun b o hb e=>(sb.2 b hb).trans e) f0 f1 f3 f4 f5
  obtain ⟨o,e,c,d⟩:=id st'
  exact ⟨u,rfl,Fd (s:={ s with heap:=h' }) e c d (by decide) ⟨x,H,I1,ru,⟨rfl,fun ys hy=>by rw [I.Hz hy hq]; exact hx⟩,st',fun b hb=>(hf b hb).1⟩⟩
 done:=by
  intro X hP hw hK hc i pins s σ H E I hf st hg
  subst hP hw hK
  obtain ⟨xs,hq,hx⟩:=hg
  obtain ⟨its,rv,p,hz⟩:=I.tuple hq
  obtain ⟨f0,f1,f2,f3,f4,f5⟩:=hf it (by simp)
  have hl:=rv.length
  exact wpAny_pyNext_tuple_end (I.ok.hd hc) st (show s.heap.IsTuple a its.toArray from p) (by simp; omega) fun h' eb=>⟨rfl,I.turned (t':=s.toks) (fun b o hb e=>eb b o hb e) f0 f1 f3 f4 f5⟩
 self:=fun _ _ _ _ _ st h=>wpAny_pyIter_tupleiter st h
theorem Cr {P:Program} {w:World} {K:PySem.W.Frag} {tg:Expr} (it:Addr) (lo:Int) (n:Nat):Turn P w K tg (XH lo n) [it] it (fun i h=>IsRangeIter h it (lo + (i:Nat) * 1) ((n:Int) - (i:Nat)) 1) where
 mem:=by simp
 obj:=fun i h st b hb=>by
  have e:b=it:=by simpa using hb
  subst e
  exact ⟨_,st,fun v z=>by
   have z':Data.fields _=Data.cell v:=z
   cases z'⟩
 keep:=fun i h h' st k=>k it (by simp) _ st
 item:=by
  intro X hP hw hK hc i pins s σ H E I hf st hg
  subst hP hw hK
  obtain ⟨f0,f1,f2,f3,f4,f5⟩:=hf it (by simp)
  have W:=Walks.range (prog:=X.prog) (w:=X.w) (I.ok.hd hc) it lo 1 n
  refine W.item i s _ _ hg st fun v h' tk hv st' kk=>?_
  obtain ⟨t,rfl⟩:=hv
  have I1:Inv X pins σ H { s with heap:=h',toks:=tk }:=I.turned (fun b o hb e=>kk b o (by simpa using hb) e) f0 f1 f3 f4 f5
  refine ⟨_,rfl,Fd (s:={ s with heap:=h',toks:=tk }) (n:="range_iterator") st' rfl rfl (by decide) ⟨.int (lo + i),H,I1,⟨t,?_⟩,⟨rfl,rfl⟩,st',fun b hb=>(hf b hb).1⟩⟩
  rw [Int.mul_one]
 done:=by
  intro X hP hw hK hc i pins s σ H E I hf st hg
  subst hP hw hK
  obtain ⟨f0,f1,f2,f3,f4,f5⟩:=hf it (by simp)
  exact wpAny_pyNext_range_end (I.ok.hd hc) st (by have:n≤i:=hg; omega) fun h' eb=>⟨rfl,I.turned (t':=s.toks) (fun b o hb e=>eb b o hb e) f0 f1 f3 f4 f5⟩
 self:=fun _ _ _ _ _ st h=>wpAny_pyIter_rangeiter st h
end L2
namespace L2
open PySem PySem.Spec PyProof.Rows
section
variable {X:Cx} {tg:Expr}
noncomputable def VP (K:PySem.W.Frag) (tl:TE):TI:=fun σ H R=>tl σ H fun x H1=>∃a,x=.ref a∧(∃xs,cJ K H1 a xs)∧R (Yw K a) H1
noncomputable def Yy (K:PySem.W.Frag) (tl:TE):TI:=fun σ H R=>tl σ H fun x H1=>∃a,x=.ref a∧(∃xs,gw K H1 a xs)∧R (Yx K a) H1
theorem sU {l:Expr} {tl:TE} (hl:PE X l tl):PI X tg l (VP X.K tl):=by
 intro pins s σ H R I h
 refine cF (hl pins s σ H _ I h) fun v s1 aR=>?_
 obtain ⟨x,H1,I1,r1,q1⟩:=aR
 obtain ⟨a,e,⟨xs,hq⟩,q⟩:=q1
 subst e
 cases r1
 obtain ⟨its,rv,p,hz⟩:=I1.list hq
 refine wpAny_pyIter_list p.isList ?_
 refine ⟨s1.heap.objs.size,[s1.heap.objs.size],_,_,H1,rfl,I1.kept (t':=s1.toks) fun b o e=>Heap.get?_push_of_some _ e,HD a _,⟨_,Heap.get?_push_size _ rfl,rfl,rfl⟩,fun b hb=>?_,q⟩
 have e:b=s1.heap.objs.size:=by simpa using hb
 subst e
 exact I1.yr (Nat.le_refl _) (I1.hok.fresh (Nat.le_refl _))
theorem yt {l:Expr} {tl:TE} (hl:PE X l tl):PI X tg l (Yy X.K tl):=by
 intro pins s σ H R I h
 refine cF (hl pins s σ H _ I h) fun v s1 aR=>?_
 obtain ⟨x,H1,I1,r1,q1⟩:=aR
 obtain ⟨a,e,⟨xs,hq⟩,q⟩:=q1
 subst e
 cases r1
 obtain ⟨its,rv,p,hz⟩:=I1.tuple hq
 refine wpAny_pyIter_tuple (show s1.heap.IsTuple a its.toArray from p) ?_
 refine ⟨s1.heap.objs.size,[s1.heap.objs.size],_,_,H1,rfl,I1.kept (t':=s1.toks) fun b o e=>Heap.get?_push_of_some _ e,Cq a _,⟨_,Heap.get?_push_size _ rfl,rfl,rfl⟩,fun b hb=>?_,q⟩
 have e:b=s1.heap.objs.size:=by simpa using hb
 subst e
 exact I1.yr (Nat.le_refl _) (I1.hok.fresh (Nat.le_refl _))
theorem JZ {pins:List (Addr×Obj)} {σ:St} {H:Hp} {s:Shared} {R:It→Hp→Prop} {E:Value→Shared→Prop} {lo hi:Int} {t u v:Tok} {tk:Nat} (I:Inv X pins σ H s) (h1:-(2 ^ 62)≤lo) (h2:lo < 2 ^ 62) (h3:-(2 ^ 62)≤hi) (h4:hi < 2 ^ 62)
  (q:R (XH lo (hi - lo).toNat) H):wpAny (model X.prog X.w) X.A (pyIter (.ref s.heap.objs.size)) (PIE X pins σ tg R) E { s with heap:=s.heap.push { cls:=.type "range",data:=.fields #[.int lo t,.int hi u,.int 1 v] },toks:=tk }:=by
 refine wpAny_pyIter_range (IsRange.new ..) (small_one h1 h2 h3 h4) ?_
 have I1:Inv X pins σ H { s with heap:=s.heap.push { cls:=.type "range",data:=.fields #[.int lo t,.int hi u,.int 1 v] },toks:=tk }:=I.kept fun b o e=>Heap.get?_push_of_some _ e
 refine ⟨(s.heap.push { cls:=.type "range",data:=.fields #[.int lo t,.int hi u,.int 1 v] }).objs.size,[(s.heap.push { cls:=.type "range",data:=.fields #[.int lo t,.int hi u,.int 1 v] }).objs.size],_,_,H,rfl,
  I1.kept (t':=tk) fun b o e=>Heap.get?_push_of_some _ e,Cr _ lo (hi - lo).toNat,?_,fun b hb=>?_,q⟩
 ·have e1:lo + ((0:Nat):Int) * 1=lo:=by simp
  have e2:(((hi - lo).toNat:Nat):Int) - ((0:Nat):Int)=Builtin.Range.rangeSize lo hi 1:=by rw [rangeSize_one]; split <;> omega
  show IsRangeIter _ _ (lo + ((0:Nat):Int) * 1) ((((hi - lo).toNat:Nat):Int) - ((0:Nat):Int)) 1
  rw [e1,e2]
  exact Heap.get?_push_size _ rfl
 ·have e:b=(s.heap.push { cls:=.type "range",data:=.fields #[.int lo t,.int hi u,.int 1 v] }).objs.size:=by simpa using hb
  subst e
  exact I1.yr (Nat.le_refl _) (I1.hok.fresh (Nat.le_refl _))
noncomputable def VR (ta:TA):TI:=fun σ H R=>ta σ H fun vs H1=>∃j:Int,vs=[.int j]∧-(2 ^ 62)≤j∧j < 2 ^ 62∧R (XH 0 j.toNat) H1
theorem HF {a:Expr} {ta:TA} {p pos:Pos} (hg:Gl X "range") (hm:X.mg "range"=none) (ha:PA X [a] ta) (hs:starEach [a] X.env=[(false,eval a X.env)]:=by rfl):PI X tg (.Call (.Name "range" p) [a] [] pos) (VR ta):=by
 intro pins s σ H R I h
 refine Call_ (gP I hg hm boot_range (PyProof.Rows.callWith_type1 (cF (ha pos pins s σ H _ I h) fun us s1 aR=>?_) hs rfl))
 obtain ⟨vs,H1,I1,r1,q1⟩:=aR
 obtain ⟨j,e,q1,q2,q⟩:=q1
 subst e
 cases r1 with
 | cons r rr=>
  cases rr
  obtain ⟨t,rfl⟩:=r
  exact call_range_1 (JZ I1 (by omega) (by omega) q1 q2 (by simpa using q))
noncomputable def VV (wi:TI) (g:TG) (tb:TS):TS:=fun D σ H=>wi σ H fun J H1=>∃W:Nat→Nat→St→Hp→Prop,(∃m,W 0 m σ H1)∧∀i m σ H,W i m σ H→
 (J.stop i H∧D.nx σ H)∨(J.go i H∧∃N:St→Hp→Prop,(∀σ' H',N σ' H'→∃m',m' < m∧W (i + 1) m' σ' H')∧∀x H',J.Rk i H x H'→g x σ H' fun σ2 H2=>tb { D with nx:=N,ct:=N,bk:=D.nx } σ2 H2)
noncomputable def tZ (fp:List Addr) (h:Heap):List (Addr×Obj):=fp.filterMap fun b=>(h.get? b).map fun o=>(b,o)
theorem jA {fp:List Addr} {h:Heap} {b:Addr} {o:Obj} (hb:b∈fp) (e:h.get? b=some o):(b,o)∈tZ fp h:=List.mem_filterMap.mpr ⟨b,hb,by rw [e]; rfl⟩
theorem HH {fp:List Addr} {h:Heap} {p:Addr×Obj} (hp:p∈tZ fp h):p.1∈fp∧h.get? p.1=some p.2:=by
 obtain ⟨b,hb,e⟩:=List.mem_filterMap.mp hp
 cases q:h.get? b with
 | none=>rw [q] at e; cases e
 | some o=>
  rw [q] at e
  have e':(b,o)=p:=Option.some.inj e
  subst e'
  exact ⟨hb,q⟩
theorem Inv.pinned {pins:List (Addr×Obj)} {σ:St} {H:Hp} {s:Shared} {fp:List Addr} (I:Inv X pins σ H s) (hf:∀b∈fp,iu X pins H b) (ho:∀b∈fp,∃o,s.heap.get? b=some o∧∀v,o.data≠.cell v):Inv X (pins++tZ fp s.heap) σ H s:=
 I.Ez fun p hp=>(List.mem_append.mp hp).elim (fun z=>I.pin p (List.mem_append_right _ z)) fun z=>by
  obtain ⟨hb,e⟩:=HH z
  obtain ⟨f0,f1,f2,_⟩:=hf p.1 hb
  obtain ⟨o,e',d⟩:=ho p.1 hb
  rw [e] at e'; cases e'
  exact ⟨e,f0,f1,f2,d⟩
theorem Inv.oG {pins pl:List (Addr×Obj)} {σ:St} {H:Hp} {s:Shared} (I:Inv X (pins++pl) σ H s):Inv X pins σ H s:=I.Ez fun p hp=>I.pin p (List.mem_append_right _ (List.mem_append_left _ hp))
theorem Tj {iter:Expr} {body:List Stmt} {wi:TI} {g:TG} {tb:TS} {pos:Pos} (hp:PassesOwn (model X.prog X.w) X.A X.env X.xe) (hc:X.calm=true) (hi:PI X tg iter wi) (hg:PG X tg g) (hb:sJ X body tb)
  (hs:∀x,foldedSetIterable iter X.env x=pure x:=by intro _; rfl):PS X (.For tg iter body [] pos) (VV wi g tb):=by
 intro pins s σ H D I h
 refine wpAny_For (cF (hi pins s σ H _ I h) fun v s1 h1=>cF h1 fun itv s2 h2=>?_) hs
 obtain ⟨it,fp,tn,J,H2,e,I2,T,st2,f2,W,⟨m0,w0⟩,turn⟩:=h2
 subst e
 have stat:∀{H':Hp},(∀b∈fp,H' b=none)→∀b∈fp,iu X pins H' b:=fun hn b hb=>⟨hn b hb,(f2 b hb).2⟩
 refine codeAny_forLoop_any (fun n s'=>∃i σ' H',Inv X pins σ' H' s'∧tn i s'.heap∧(∀b∈fp,H' b=none)∧W i n σ' H') ?_ m0 ⟨0,σ,H2,I2,st2,fun b hb=>(f2 b hb).1,w0⟩
 rintro n s3 ⟨i,σ3,H3,I3,st3,V0,w3⟩
 rcases turn i n σ3 H3 w3 with ⟨stop,qn⟩ | ⟨go,N,hN,step⟩
 ·refine wpAny_passesOwn hp (cF (T.done X rfl rfl rfl hc i pins s3 σ3 H3 X.xe I3 (stat V0) st3 stop) fun r s4 aR=>?_)
  obtain ⟨hr,I4⟩:=aR
  subst hr
  exact wpAny_execs_nil ⟨σ3,H3,I4,qn⟩
 ·refine wpAny_passesOwn hp (cF (T.item X rfl rfl rfl hc i pins s3 σ3 H3 X.xe I3 (stat V0) st3 go) fun r s4 aR=>?_)
  obtain ⟨u,hr,h4⟩:=aR
  subst hr
  refine wpAny_passesOwn hp (cF h4 fun _ s5 aR=>?_)
  obtain ⟨x,H5,I5,r5,y5,Tn,Yz⟩:=aR
  have YB:=I5.pinned (stat Yz) (T.obj _ _ Tn)
  refine wpAny_passesOwn hp (cF (hg _ s5 σ3 H5 x u _ YB r5 (step x H5 y5)) fun _ s6 aR=>?_)
  obtain ⟨σ6,H6,I6,q6⟩:=aR
  refine wpAny_passesOwn hp (cF (hb _ s6 σ6 H6 _ I6 q6) fun f s7 q7=>?_)
  have again:∀{σ7:St} {H7:Hp},Inv X (pins++tZ fp s5.heap) σ7 H7 s7→N σ7 H7→∃m,m < n∧∃i σ' H',Inv X pins σ' H' s7∧tn i s7.heap∧(∀b∈fp,H' b=none)∧W i m σ' H':=fun {σ7 H7} I7 n7=>by
   obtain ⟨m',hm,w7⟩:=hN σ7 H7 n7
   refine ⟨m',hm,i + 1,σ7,H7,I7.oG,T.keep _ _ _ Tn fun b hb o e=>(I7.pin (b,o) (List.mem_append_right _ (List.mem_append_right _ (jA hb e)))).1,fun b hb=>?_,w7⟩
   obtain ⟨o,e,d⟩:=T.obj _ _ Tn b hb
   exact (I7.pin (b,o) (List.mem_append_right _ (List.mem_append_right _ (jA hb e)))).2.1
  cases f with
  | next=>obtain ⟨σ7,H7,I7,n7⟩:=q7; exact again I7 n7
  | cont=>obtain ⟨σ7,H7,I7,n7⟩:=q7; exact again I7 n7
  | brk=>obtain ⟨σ7,H7,I7,q7⟩:=q7; exact ⟨σ7,H7,I7.oG,q7⟩
  | ret v=>obtain ⟨x7,σ7,H7,I7,r7,q7⟩:=q7; exact ⟨x7,σ7,H7,I7.oG,r7,q7⟩
end
end L2
namespace L2
open PySem PySem.Spec PyProof.Rows
noncomputable abbrev R2:=V→V→Hp→VK→Prop
noncomputable def gA (X:Cx) (f:Value→Value→Sem Value) (r:R2):Prop:=
 ∀(pins:List (Addr×Obj)) (s:Shared) (σ:St) (H:Hp) (x y:V) (v u:Value) (Q:VK),Inv X pins σ H s→RelV x v→RelV y u→r x y H Q→
  wpAny (model X.prog X.w) X.A (f v u) (EP X pins σ Q) X.xe s
noncomputable def YC (X:Cx) (f:Value→Sem Value) (r:V→Hp→VK→Prop):Prop:=
 ∀(pins:List (Addr×Obj)) (s:Shared) (σ:St) (H:Hp) (x:V) (v:Value) (Q:VK),Inv X pins σ H s→RelV x v→r x H Q→
  wpAny (model X.prog X.w) X.A (f v) (EP X pins σ Q) X.xe s
noncomputable def cI (X:Cx) (f:Value) (r:List V→Hp→VK→Prop):Prop:=
 ∀(pins:List (Addr×Obj)) (s:Shared) (σ:St) (H:Hp) (xs:List V) (us:List Value) (Q:VK),Inv X pins σ H s→Vals xs us→r xs H Q→
  wpAny (model X.prog X.w) X.A (call f us) (EP X pins σ Q) X.xe s
noncomputable def YD (X:Cx) (r:V→Hp→(Bool→Hp→Prop)→Prop):Prop:=
 ∀(pins:List (Addr×Obj)) (s:Shared) (σ:St) (H:Hp) (x:V) (v:Value) (Q:Bool→Hp→Prop),Inv X pins σ H s→RelV x v→r x H Q→
  wpAny (model X.prog X.w) X.A (truthy v) (TP X pins σ Q) X.xe s
noncomputable def V1 (r:R2) (ta tb:TE):TE:=fun σ H Q=>ta σ H fun x H1=>tb σ H1 fun y H2=>r x y H2 Q
noncomputable def tUn (r:V→Hp→VK→Prop) (ta:TE):TE:=fun σ H Q=>ta σ H fun x H1=>r x H1 Q
noncomputable def rI (C:Int→Int→Prop) (g:Int→Int→V):R2:=fun x y H Q=>∃i j,x=.int i∧y=.int j∧C i j∧Q (g i j) H
noncomputable def HJ (g:Int→Int→V):R2:=fun x y H Q=>∃i j,x=.int i∧y=.int j∧Q (g i j) H
noncomputable def rU (g:Int→V):V→Hp→VK→Prop:=fun x H Q=>∃i,x=.int i∧Q (g i) H
section
variable {X:Cx} {a b c:Expr} {ta tb tc:TE} {pos:Pos}
theorem Tp (ha:PE X a ta) (hb:PE X b tb) {pins:List (Addr×Obj)} {s:Shared} {σ:St} {H:Hp} {R:V→V→Hp→Prop} (I:Inv X pins σ H s)
  (h:ta σ H fun x H1=>tb σ H1 fun y H2=>R x y H2) {Q:Value→Shared→Prop} {f:Value→Value→Sem Value}
  (hf:∀v u s2 x y H2,Inv X pins σ H2 s2→RelV x v→RelV y u→R x y H2→wpAny (model X.prog X.w) X.A (f v u) Q X.xe s2):
  wpAny (model X.prog X.w) X.A (eval a X.env) (fun v s₁=>wpAny (model X.prog X.w) X.A (eval b X.env) (fun u s₂=>wpAny (model X.prog X.w) X.A (f v u) Q X.xe s₂) X.xe s₁) X.xe s:=by
 refine cF (ha pins s σ H _ I h) fun v s1 aR=>?_
 obtain ⟨x,H1,I1,r1,q1⟩:=aR
 refine cF (hb pins s1 σ H1 _ I1 q1) fun u s2 aR=>?_
 obtain ⟨y,H2,I2,r2,q2⟩:=aR
 exact hf v u s2 x y H2 I2 r1 r2 q2
theorem V2 {op:Operator} {r:R2} (ho:gA X (binaryOp op) r) (ha:PE X a ta) (hb:PE X b tb):PE X (.BinOp a op b pos) (V1 r ta tb):=by
 intro pins s σ H Q I h
 exact wpAny_BinOp (Tp ha hb I h fun v u s2 x y H2 I2 rx ry q=>ho pins s2 σ H2 x y v u Q I2 rx ry q)
theorem V3 {op:UnaryOp} {r:V→Hp→VK→Prop} (ho:YC X (unaryOp op) r) (ha:PE X a ta):PE X (.UnaryOp op a pos) (tUn r ta):=by
 intro pins s σ H Q I h
 exact UnaryOp_ (cF (ha pins s σ H _ I h) fun v s1 ⟨x,H1,I1,r1,q1⟩=>ho pins s1 σ H1 x v Q I1 r1 q1)
theorem XJ {f:Value→Value→Sem Value} {C:Int→Int→Prop} {g:Int→Int→Int}
  (rule:∀(i j:Int) (t u:Tok) (s:Shared) (Q:Value→Shared→Prop) (E:Value→Shared→Prop),C i j→Q (.int (g i j) s.toks) { s with toks:=s.toks + 1 }→wpAny (model X.prog X.w) X.A (f (.int i t) (.int j u)) Q E s):
  gA X f (rI C fun i j=>.int (g i j)):=by
 intro pins s σ H x y v u Q I rx ry h
 obtain ⟨i,j,rfl,rfl,hc,q⟩:=h
 obtain ⟨t,rfl⟩:=rx
 obtain ⟨t',rfl⟩:=ry
 exact rule i j t t' s _ _ hc ⟨.int (g i j),H,I.tok _,⟨_,rfl⟩,q⟩
theorem V4 {f:Value→Value→Sem Value} {g:Int→Int→Int}
  (rule:∀(i j:Int) (t u:Tok) (s:Shared) (Q:Value→Shared→Prop) (E:Value→Shared→Prop),Q (.int (g i j) s.toks) { s with toks:=s.toks + 1 }→wpAny (model X.prog X.w) X.A (f (.int i t) (.int j u)) Q E s):
  gA X f (HJ fun i j=>.int (g i j)):=by
 intro pins s σ H x y v u Q I rx ry h
 obtain ⟨i,j,rfl,rfl,q⟩:=h
 obtain ⟨t,rfl⟩:=rx
 obtain ⟨t',rfl⟩:=ry
 exact rule i j t t' s _ _ ⟨.int (g i j),H,I.tok _,⟨_,rfl⟩,q⟩
theorem Tq {f:Value→Value→Sem Value} {g:Int→Int→Bool}
  (rule:∀(i j:Int) (t u:Tok) (s:Shared) (Q:Value→Shared→Prop) (E:Value→Shared→Prop),Q (.bool (g i j)) s→wpAny (model X.prog X.w) X.A (f (.int i t) (.int j u)) Q E s):
  gA X f (HJ fun i j=>.bl (g i j)):=by
 intro pins s σ H x y v u Q I rx ry h
 obtain ⟨i,j,rfl,rfl,q⟩:=h
 obtain ⟨t,rfl⟩:=rx
 obtain ⟨t',rfl⟩:=ry
 exact rule i j t t' s _ _ ⟨.bl (g i j),H,I,rfl,q⟩
noncomputable def V5 (i j:Int):Prop:=0 < j∧j < 1073741824
noncomputable def V6 (i j:Int):Prop:=0≤j∧j≤1000000∧i.natAbs < 2 ^ 64
noncomputable def Ol (i j:Int):Prop:=(-(2 ^ 64) < i∧i < 2 ^ 64)∨(-(2 ^ 64) < j∧j < 2 ^ 64)
theorem Ol.ok {i j:Int} (h:Ol i j):IntMulOk i j:=by
 rcases h with ⟨h1,h2⟩ | ⟨h1,h2⟩
 ·exact .of_left (intBits_le_64 h1 h2)
 ·exact .of_right (intBits_le_64 h1 h2)
theorem Tr:gA X (binaryOp .Add) (HJ fun i j=>.int (i + j)):=V4 fun _ _ _ _ _ _ _ q=>add_int q
theorem Cu:gA X (binaryOp .Sub) (HJ fun i j=>.int (i - j)):=V4 fun _ _ _ _ _ _ _ q=>sub_int q
theorem qj:gA X (binaryOp .Mult) (rI Ol fun i j=>.int (i * j)):=XJ fun _ _ _ _ _ _ _ hc q=>mul_int q hc.ok
theorem Fe:gA X (binaryOp .FloorDiv) (rI V5 fun i j=>.int (i / j)):=XJ fun i j _ _ _ _ _ hc q=>by
 have h1:(0:Int) < j:=hc.1
 have h2:j < 1073741824:=hc.2
 exact floordiv_int (by omega) (by rw [Int.fdiv_eq_ediv_of_nonneg i (by omega)]; exact q) (.inl (PyProof.noPylong_small (by omega)))
theorem nu:gA X (binaryOp .Mod) (rI (fun _ j=>0 < j) fun i j=>.int (i % j)):=XJ fun i j _ _ _ _ _ hc q=>by
 have h1:(0:Int) < j:=hc
 exact mod_int' (by omega) (by rw [Int.fmod_eq_emod_of_nonneg i (by omega)]; exact q)
theorem Cv:gA X (binaryOp .Pow) (rI V6 fun i j=>.int (i ^ j.toNat)):=XJ fun _ _ _ _ _ _ _ hc q=>pow_int_small hc.1 hc.2.1 hc.2.2 q
theorem unI {f:Value→Sem Value} {g:Int→Int}
  (rule:∀(i:Int) (t:Tok) (s:Shared) (Q:Value→Shared→Prop) (E:Value→Shared→Prop),Q (.int (g i) s.toks) { s with toks:=s.toks + 1 }→wpAny (model X.prog X.w) X.A (f (.int i t)) Q E s):
  YC X f (rU fun i=>.int (g i)):=by
 intro pins s σ H x v Q I rx h
 obtain ⟨i,rfl,q⟩:=h
 obtain ⟨t,rfl⟩:=rx
 exact rule i t s _ _ ⟨.int (g i),H,I.tok _,⟨_,rfl⟩,q⟩
theorem Tt:YC X (unaryOp .USub) (rU fun i=>.int (-i)):=unI fun _ _ _ _ _ q=>neg_int q
end
noncomputable def Tu:V→V→Bool
 | .non,.non=>true | .non,.int _=>true | .int _,.non=>true | .non,.bl _=>true | .bl _,.non=>true | .non,.str _=>true | .str _,.non=>true
 | .int _,.int _=>true | .bl _,.bl _=>true | .str _,.str _=>true | .Hv _,.Hv _=>true
 | .int _,.str _=>true | .str _,.int _=>true | .bl _,.str _=>true | .str _,.bl _=>true
 | _,_=>false
noncomputable def rEq:R2:=fun x y H Q=>Tu x y=true∧Q (.bl (decide (x=y))) H
noncomputable def rNe:R2:=fun x y H Q=>Tu x y=true∧Q (.bl (!decide (x=y))) H
theorem yu {i j:Int}:decide (V.int i=V.int j)=(i==j):=by
 rw [Bool.eq_iff_iff]
 simp
theorem Cw {i j:Bool}:decide (V.bl i=V.bl j)=(i==j):=by
 rw [Bool.eq_iff_iff]
 simp
theorem yw {i j:Str}:decide (V.str i=V.str j)=(i==j):=by
 rw [Bool.eq_iff_iff]
 simp
theorem Ff {i j:Array UInt8}:decide (V.Hv i=V.Hv j)=(i.toList==j.toList):=by
 rw [Bool.eq_iff_iff]
 cases i
 cases j
 simp
section
variable {X:Cx} {a b c:Expr} {ta tb tc:TE} {pos:Pos}
theorem bD {pins:List (Addr×Obj)} {σ:St} {H:Hp} {s:Shared} {Q:VK} {k k':Bool} (I:Inv X pins σ H s) (q:Q (.bl k) H) (e:k=k'):EP X pins σ Q (.bool k') s:=by
 subst e
 exact ⟨.bl k,H,I,rfl,q⟩
theorem V7:gA X (compareOp .Eq) rEq:=by
 intro pins s σ H x y v u Q I rx ry h
 obtain ⟨hs,q⟩:=h
 cases x with
 | non=>
  cases rx
  cases y with
  | non=>cases ry; exact PySem.EqNone.eq_none_none (bD I q (by simp))
  | bl j=>cases ry; exact PySem.EqNone.eq_none_bool (bD I q (by simp))
  | int j=>obtain ⟨t',rfl⟩:=ry; exact PySem.EqNone.eq_none_int (bD I q (by simp))
  | str j=>obtain ⟨t',rfl⟩:=ry; exact PySem.EqNone.eq_none_str (bD I q (by simp))
  | _=>exact absurd (show false=true from hs) Bool.false_ne_true
 | bl i=>
  cases rx
  cases y with
  | non=>cases ry; exact PySem.EqNone.eq_bool_none (bD I q (by simp))
  | bl j=>cases ry; exact eq_bool (bD I q Cw)
  | str j=>obtain ⟨t',rfl⟩:=ry; exact PySem.EqMixed.eq_bool_str (bD I q (by simp))
  | _=>exact absurd (show false=true from hs) Bool.false_ne_true
 | int i=>
  obtain ⟨t,rfl⟩:=rx
  cases y with
  | non=>cases ry; exact PySem.EqNone.eq_int_none (bD I q (by simp))
  | int j=>obtain ⟨t',rfl⟩:=ry; exact eq_int (bD I q yu)
  | str j=>obtain ⟨t',rfl⟩:=ry; exact PySem.EqMixed.eq_int_str (bD I q (by simp))
  | _=>exact absurd (show false=true from hs) Bool.false_ne_true
 | str i=>
  obtain ⟨t,rfl⟩:=rx
  cases y with
  | non=>cases ry; exact PySem.EqNone.eq_str_none (bD I q (by simp))
  | bl j=>cases ry; exact PySem.EqMixed.eq_str_bool (bD I q (by simp))
  | int j=>obtain ⟨t',rfl⟩:=ry; exact PySem.EqMixed.eq_str_int (bD I q (by simp))
  | str j=>obtain ⟨t',rfl⟩:=ry; exact eq_str (bD I q yw)
  | _=>exact absurd (show false=true from hs) Bool.false_ne_true
 | Hv i=>
  obtain ⟨t,rfl⟩:=rx
  cases y with
  | Hv j=>obtain ⟨t',rfl⟩:=ry; exact PySem.W.eq_bytes (bD I q Ff)
  | _=>exact absurd (show false=true from hs) Bool.false_ne_true
 | _=>cases y <;> exact absurd (show false=true from hs) Bool.false_ne_true
theorem V8:gA X (compareOp .NotEq) rNe:=by
 intro pins s σ H x y v u Q I rx ry h
 obtain ⟨hs,q⟩:=h
 cases x with
 | non=>
  cases rx
  cases y with
  | non=>cases ry; exact PySem.EqNone.ne_none_none (bD I q (by simp))
  | bl j=>cases ry; exact PySem.EqNone.ne_none_bool (bD I q (by simp))
  | int j=>obtain ⟨t',rfl⟩:=ry; exact PySem.EqNone.ne_none_int (bD I q (by simp))
  | str j=>obtain ⟨t',rfl⟩:=ry; exact PySem.EqNone.ne_none_str (bD I q (by simp))
  | _=>exact absurd (show false=true from hs) Bool.false_ne_true
 | bl i=>
  cases rx
  cases y with
  | non=>cases ry; exact PySem.EqNone.ne_bool_none (bD I q (by simp))
  | bl j=>cases ry; exact ne_bool (bD I q (congrArg not Cw))
  | str j=>obtain ⟨t',rfl⟩:=ry; exact PySem.EqMixed.ne_bool_str (bD I q (by simp))
  | _=>exact absurd (show false=true from hs) Bool.false_ne_true
 | int i=>
  obtain ⟨t,rfl⟩:=rx
  cases y with
  | non=>cases ry; exact PySem.EqNone.ne_int_none (bD I q (by simp))
  | int j=>obtain ⟨t',rfl⟩:=ry; exact ne_int (bD I q (congrArg not yu))
  | str j=>obtain ⟨t',rfl⟩:=ry; exact PySem.EqMixed.ne_int_str (bD I q (by simp))
  | _=>exact absurd (show false=true from hs) Bool.false_ne_true
 | str i=>
  obtain ⟨t,rfl⟩:=rx
  cases y with
  | non=>cases ry; exact PySem.EqNone.ne_str_none (bD I q (by simp))
  | bl j=>cases ry; exact PySem.EqMixed.ne_str_bool (bD I q (by simp))
  | int j=>obtain ⟨t',rfl⟩:=ry; exact PySem.EqMixed.ne_str_int (bD I q (by simp))
  | str j=>obtain ⟨t',rfl⟩:=ry; exact ne_str (bD I q (congrArg not yw))
  | _=>exact absurd (show false=true from hs) Bool.false_ne_true
 | Hv i=>
  obtain ⟨t,rfl⟩:=rx
  cases y with
  | Hv j=>obtain ⟨t',rfl⟩:=ry; exact PySem.W.ne_bytes (bD I q (congrArg not Ff))
  | _=>exact absurd (show false=true from hs) Bool.false_ne_true
 | _=>cases y <;> exact absurd (show false=true from hs) Bool.false_ne_true
theorem V9:gA X (compareOp .LtE) (HJ fun i j=>.bl (decide (i≤j))):=Tq fun _ _ _ _ _ _ _ q=>le_int q
theorem Wa:gA X (compareOp .Gt) (HJ fun i j=>.bl (decide (j < i))):=Tq fun _ _ _ _ _ _ _ q=>gt_int q
theorem J0:gA X (compareOp .GtE) (HJ fun i j=>.bl (decide (j≤i))):=Tq fun _ _ _ _ _ _ _ q=>ge_int q
theorem J1:gA X (compareOp .Is) (fun x y H Q=>y=.non∧Q (.bl (decide (x=.non))) H):=by
 intro pins s σ H x y v u Q I rx ry h
 obtain ⟨rfl,q⟩:=h
 cases ry
 refine is_none_gen (bD I q ?_)
 cases x <;> first
  | (cases rx; rfl)
  | (obtain ⟨t,rfl⟩:=rx; rfl)
theorem Om:gA X (compareOp .IsNot) (fun x y H Q=>y=.non∧Q (.bl (!decide (x=.non))) H):=by
 intro pins s σ H x y v u Q I rx ry h
 obtain ⟨rfl,q⟩:=h
 cases ry
 refine isnot_none_gen (bD I q ?_)
 cases x <;> first
  | (cases rx; rfl)
  | (obtain ⟨t,rfl⟩:=rx; rfl)
theorem gA.or {f:Value→Value→Sem Value} {r r':R2} (h:gA X f r) (h':gA X f r'):gA X f (fun x y H Q=>r x y H Q∨r' x y H Q):=by
 intro pins s σ H x y v u Q I rx ry q
 rcases q with q | q
 ·exact h pins s σ H x y v u Q I rx ry q
 ·exact h' pins s σ H x y v u Q I rx ry q
theorem cC (b:Expr) {op:CmpOp} (h:op≠.In:=by decide) (h2:op≠.NotIn:=by decide):behindInMarks op b=false:=by
 have e1:(op==CmpOp.In)=false:=by cases op <;> first | rfl | exact absurd rfl h
 have e2:(op==CmpOp.NotIn)=false:=by cases op <;> first | rfl | exact absurd rfl h2
 cases b <;> simp [behindInMarks,e1,e2]
theorem Oo {op:CmpOp} {r:R2} (ho:gA X (compareOp op) r) (ha:PE X a ta) (hb:PE X b tb) (hm:behindInMarks op b=false):PE X (.Compare a [op] [b] pos) (V1 r ta tb):=by
 intro pins s σ H Q I h
 exact wpAny_Compare1 (Tp ha hb I h fun v u s2 x y H2 I2 rx ry q=>ho pins s2 σ H2 x y v u Q I2 rx ry q) hm
noncomputable def J2 (t:TE):TT:=fun σ H Q=>t σ H fun x H'=>∃k,x=.bl k∧Q k H'
theorem Oq {op:CmpOp} {r:R2} (ho:gA X (compareOp op) r) (ha:PE X a ta) (hb:PE X b tb) (hm:behindInMarks op b=false):PT X (.Compare a [op] [b] pos) (J2 (V1 r ta tb)):=by
 intro pins s σ H Q I h
 refine wpAny_isTrue_Compare1 (cF (ha pins s σ H _ I h) fun v s1 ⟨x,H1,I1,r1,q1⟩=>cF (hb pins s1 σ H1 _ I1 q1) fun u s2 ⟨y,H2,I2,r2,q2⟩=>
  cF (ho pins s2 σ H2 x y v u _ I2 r1 r2 q2) fun c s3 ⟨z,H3,I3,r3,k,e,q3⟩=>?_) hm
 subst e
 cases r3
 exact wpAny_truthy_bool ⟨H3,I3,q3⟩
noncomputable def J3 (r r':R2) (ta tb tc:TE):TE:=fun σ H Q=>ta σ H fun x H1=>tb σ H1 fun y H2=>r x y H2 fun z H3=>∃k,z=.bl k∧
 (if k=true then tc σ H3 fun w' H4=>r' y w' H4 Q else Q (.bl false) H3)
theorem J4 {op op':CmpOp} {r r':R2} (ho:gA X (compareOp op) r) (ho':gA X (compareOp op') r') (ha:PE X a ta) (hb:PE X b tb) (hc:PE X c tc)
  (hm:lastMarks [op,op'] [b,c]=false:=by with_unfolding_all rfl):PT X (.Compare a [op,op'] [b,c] pos) (J2 (J3 r r' ta tb tc)):=by
 intro pins s σ H Q I h
 refine isTrue_chain (cF (ha pins s σ H _ I h) fun v s1 ⟨x,H1,I1,r1,q1⟩=>test_link (cF (hb pins s1 σ H1 _ I1 q1) fun u s2 ⟨y,H2,I2,r2,q2⟩=>
  cF (ho pins s2 σ H2 x y v u _ I2 r1 r2 q2) fun d s3 ⟨z,H3,I3,r3,k,e,q3⟩=>?_)) hm
 subst e
 cases r3
 refine wpAny_truthy_bool ?_
 cases k with
 | false=>
  obtain ⟨k',e',q'⟩:=q3
  cases e'
  exact ite_ff ⟨H3,I3,q'⟩
 | true=>
  refine ite_tt (test_last (cF (hc pins s3 σ H3 _ I3 q3) fun w' s4 ⟨z',H4,I4,r4,q4⟩=>cF (ho' pins s4 σ H4 y z' u w' _ I4 r2 r4 q4) fun d' s5 aR=>?_))
  obtain ⟨z2,H5,I5,r5,k2,e2,q5⟩:=aR
  subst e2
  cases r5
  exact wpAny_truthy_bool ⟨H5,I5,q5⟩
noncomputable def Tv (K:PySem.W.Frag) (x:V) (H:Hp) (k:Bool):Prop:=
 match x with
 | .non=>k=false
 | .bl b=>k=b
 | .int i=>k=(i != 0)
 | .str y=>y.length≤sizeLine∧k=((y.length:Int) != 0)
 | .Hv y=>y.size≤sizeLine∧k=((y.size:Int) != 0)
 | .ref p=>(∃xs,cJ K H p xs∧k=!xs.isEmpty)∨(∃xs,gw K H p xs∧k=!xs.isEmpty)∨∃kvs,H p=some (.dK kvs)∧k=!kvs.isEmpty
 | _=>False
theorem Cy {κ:Type} {kvs:List (κ×V)} {vs:List (κ×Value)} (r:KV kvs vs):(!vs.isEmpty)=!kvs.isEmpty:=by
 cases r <;> rfl
theorem t6 {xs:List V} {its:List Value} (r:Vals xs its):(!its.toArray.isEmpty)=!xs.isEmpty:=by
 cases r <;> simp
theorem nA:(sizeLine:Nat) < 2 ^ 63:=by rw [sizeLine_eq]; decide
theorem Tw:YD X (fun x H Q=>∃k,Tv X.K x H k∧Q k H):=by
 intro pins s σ H x v Q I rx h
 obtain ⟨k,e,q⟩:=h
 have hl:=nA
 have hs:sizeLine=16777216:=sizeLine_eq
 cases x with
 | non=>
  cases rx
  have e':k=false:=e
  subst e'
  exact truthy_none ⟨H,I,q⟩
 | bl b=>
  cases rx
  have e':k=b:=e
  subst e'
  exact wpAny_truthy_bool ⟨H,I,q⟩
 | int i=>
  obtain ⟨t,rfl⟩:=rx
  have e':k=(i != 0):=e
  subst e'
  exact PySem.P.truthy_int ⟨H,I,q⟩
 | str y=>
  obtain ⟨t,rfl⟩:=rx
  obtain ⟨hy,e'⟩:y.length≤sizeLine∧k=((y.length:Int) != 0):=e
  subst e'
  exact PySem.P.truthy_str (by omega) ⟨H,I.tok _,q⟩
 | Hv y=>
  obtain ⟨t,rfl⟩:=rx
  obtain ⟨hy,e'⟩:y.size≤sizeLine∧k=((y.size:Int) != 0):=e
  subst e'
  exact PySem.W.truthy_bytes (by omega) ⟨H,I.tok _,q⟩
 | ref p=>
  cases rx
  have e':(∃xs,cJ X.K H p xs∧k=!xs.isEmpty)∨(∃xs,gw X.K H p xs∧k=!xs.isEmpty)∨∃kvs,H p=some (.dK kvs)∧k=!kvs.isEmpty:=e
  rcases e' with ⟨xs,hx,e'⟩ | ⟨xs,hx,e'⟩ | ⟨kvs,hx,e'⟩
  ·subst e'
   obtain ⟨its,r,pl,hz⟩:=I.list hx
   have hlen:=r.length
   exact wpAny_truthy_list pl.isList (by simp only [List.size_toArray]; omega) ⟨H,I.tok _,by rw [t6 r]; exact q⟩
  ·subst e'
   obtain ⟨its,r,pl,hz⟩:=I.tuple hx
   have hlen:=r.length
   exact truthy_tuple pl (by simp only [List.size_toArray]; omega) ⟨H,I.tok _,by rw [t6 r]; exact q⟩
  ·subst e'
   obtain ⟨hz,hS,vs,r,m⟩:kvs.length≤sizeLine∧(p==sysModules)=false∧∃vs,KV kvs vs∧s.heap.DictOf (cL X.prog X.w) p vs:=I.hok p _ hx
   have hlen:kvs.length=vs.length:=Paired.length r
   exact wpAny_truthy_dict hS m (by omega) ⟨H,I.tok _,by rw [Cy r]; exact q⟩
 | _=>exact (show False from e).elim
theorem J5 (ha:PE X a ta) (he:∀whole,isTrue a X.env whole=(do let v ←whole; standAt a.pos; holding [v] (truthy v))):
  PT X a (fun σ H Q=>ta σ H fun x H'=>∃k,Tv X.K x H' k∧Q k H'):=by
 intro pins s σ H Q I h
 exact isTrue_plain (cF (ha pins s σ H _ I h) fun v s1 ⟨x,H1,I1,r1,q1⟩=>Tw pins s1 σ H1 x v Q I1 r1 q1) (he _)
theorem CG:gA X (binaryOp .Add) (fun x y H Q=>∃i j,x=.str i∧y=.str j∧i.length + j.length≤sizeLine∧Q (.str (i++j)) H):=by
 intro pins s σ H x y v u Q I rx ry h
 obtain ⟨i,j,rfl,rfl,hz,q⟩:=h
 obtain ⟨t,rfl⟩:=rx
 obtain ⟨t',rfl⟩:=ry
 exact add_str (fun t' tk=>⟨.str (i++j),H,I.tok _,⟨_,rfl⟩,q⟩) hz
theorem vals1 {x:V} {us:List Value} (r:Vals [x] us):∃u,us=[u]∧RelV x u:=by
 cases r with
 | cons r1 r2=>cases r2; exact ⟨_,rfl,r1⟩
theorem vals2 {x y:V} {us:List Value} (r:Vals [x,y] us):∃u w',us=[u,w']∧RelV x u∧RelV y w':=by
 cases r with
 | cons r1 r2=>
  cases r2 with
  | cons r3 r4=>cases r4; exact ⟨_,_,rfl,r1,r3⟩
theorem zW:cI X (.builtin "abs") (fun xs H Q=>∃i,xs=[.int i]∧Q (.int (if i < 0 then -i else i)) H):=by
 intro pins s σ H xs us Q I r h
 obtain ⟨i,rfl,q⟩:=h
 obtain ⟨u,rfl,t,rfl⟩:=vals1 r
 exact call_abs_int fun u tk=>⟨.int (if i < 0 then -i else i),H,I.tok _,⟨_,rfl⟩,q⟩
theorem wH (hc:X.calm=true):cI X (.builtin "max") (fun xs H Q=>∃i j,xs=[.int i,.int j]∧Q (.int (if j > i then j else i)) H):=by
 intro pins s σ H xs us Q I r h
 obtain ⟨i,j,rfl,q⟩:=h
 obtain ⟨u,w',rfl,⟨t,rfl⟩,⟨t',rfl⟩⟩:=vals2 r
 refine max_two_ints (I.ok.hd hc) fun h' tk k=>⟨_,H,I.kept k,?_,q⟩
 by_cases hj:j > i
 ·rw [if_pos hj,if_pos hj]; exact ⟨_,rfl⟩
 ·rw [if_neg hj,if_neg hj]; exact ⟨_,rfl⟩
theorem wI (hc:X.calm=true):cI X (.builtin "min") (fun xs H Q=>∃i j,xs=[.int i,.int j]∧Q (.int (if j < i then j else i)) H):=by
 intro pins s σ H xs us Q I r h
 obtain ⟨i,j,rfl,q⟩:=h
 obtain ⟨u,w',rfl,⟨t,rfl⟩,⟨t',rfl⟩⟩:=vals2 r
 refine min_two_ints (I.ok.hd hc) fun h' tk k=>⟨_,H,I.kept k,?_,q⟩
 by_cases hj:j < i
 ·rw [if_pos hj,if_pos hj]; exact ⟨_,rfl⟩
 ·rw [if_neg hj,if_neg hj]; exact ⟨_,rfl⟩
theorem wJ:cI X (.type "int") (fun xs H Q=>(∃i,xs=[.int i]∧Q (.int i) H)∨∃k,xs=[.bl k]∧Q (.int (if k then 1 else 0)) H):=by
 intro pins s σ H xs us Q I r h
 rcases h with ⟨i,rfl,q⟩ | ⟨k,rfl,q⟩
 ·obtain ⟨u,rfl,t,rfl⟩:=vals1 r
  exact call_int_int ⟨.int i,H,I,⟨_,rfl⟩,q⟩
 ·obtain ⟨u,rfl,r1⟩:=vals1 r
  cases r1
  exact call_int_bool ⟨.int (if k then 1 else 0),H,I.tok _,⟨_,rfl⟩,q⟩
end
end L2
namespace L2
open PySem PySem.Spec PyProof.Rows
structure Tz (h:Heap) (x dx C:Addr) (mA:Str→Option Value):Prop where
 obj:h.get? x=some (PySem.W.instObj C dx)
 ns:h.Ns1 dx mA
 ne:dx≠x
theorem HN {h:Heap} {dx:Addr} {mA:Str→Option Value} (n:h.Ns1 dx mA):∃od,h.get? dx=some od∧∀name,PySem.W.lookIn name od=some (mA name):=by
 obtain ⟨o,es,ep,ho,hd,hk,_,hm⟩:=n
 refine ⟨o,ho,fun name=>?_⟩
 have e:=hm name
 unfold nsFind findBy at e
 rw [←Array.find?_toList] at e
 unfold PySem.W.lookIn
 rw [hd]
 dsimp only
 split
 ·rename_i y q
  rw [q] at e
  exact congrArg some e
 ·rename_i q
  rw [q] at e
  have a:es.toList.any (·.refKey)=false:=by
   rw [List.any_eq_false]
   intro y hy
   obtain ⟨z,t,hkey⟩:=hk y (Array.mem_toList_iff.mp hy)
   simp [DictEntry.refKey,hkey]
  have a':¬es.toList.any (·.refKey)=true:=by rw [a]; exact Bool.false_ne_true
  rw [if_neg a']
  exact congrArg some e
theorem Tz.look {h:Heap} {x dx C:Addr} {mA:Str→Option Value} (I:Tz h x dx C mA):∃od,PySem.W.InstAt h x (PySem.W.instObj C dx) C (some od)∧∀name,PySem.W.lookIn name od=some (mA name):=
 let ⟨od,ho,hl⟩:=HN I.ns
 ⟨od,⟨I.obj,rfl,rfl,ho⟩,hl⟩
section
variable {prog:Program} {w:World} {A:Around} {E:Value→Shared→Prop} {s:Shared} {K:PySem.W.Frag} {x dx C f:Addr} {mA:Str→Option Value} {name:Str} {v:Value}
end
theorem p7.some_of {v:V} {o:Option Value} (r:p7 (some v) o):∃u,o=some u∧RelV v u:=by
 cases o with
 | none=>exact (show False from r).elim
 | some u=>exact ⟨u,rfl,r⟩
section
variable {P:Program} {w:World} {H H':Hp} {h h':Heap} {a C dx:Addr} {fs fs':List (Str×V)}
theorem Fg (hok:oE P w H h) (e:H a=some (.ins C dx fs)):∃mA,Tz h a dx C mA∧(∀f,p7 (fs.lookup f) (mA f))∧PySem.Within mA (fs.map (·.1))∧fs.length≤1000∧H dx=some (.own a):=by
 obtain ⟨d,z,ne,ob,mA,n,r,q⟩:=(show bV P w H h a (.ins C dx fs) from hok a _ e)
 exact ⟨mA,⟨ob,n,ne⟩,r,q,z,d⟩
end
structure YF (K:PySem.W.Frag) (C:Addr):Prop where
 pg:PySem.W.plainGet K C Str.empty=true
 hd:PySem.W.hasDictIn K C=true
 po:PySem.W.plainOver K C=true
 sa:PySem.W.findIn K (.ref C) "__setattr__"=some (some (.builtin "object.__setattr__"))
theorem YF.get {K:PySem.W.Frag} {C:Addr} (c:YF K C) (f:Str):PySem.W.plainGet K C f=true:=c.pg
noncomputable def J6 (K:PySem.W.Frag) (C:Addr) (f:Str):Prop:=PySem.W.findIn K (.ref C) f=some none
theorem J6.taker {K:PySem.W.Frag} {C:Addr} {f:Str} (n:J6 K C f):PySem.W.takerIn K C f=some none:=by
 unfold PySem.W.takerIn
 rw [show PySem.W.findIn K (.ref C) f=some none from n]
 rfl
structure Con (K:PySem.W.Frag) (C:Addr) (f:Str) (v:V) (u:Value):Prop where
 at_:PySem.W.findIn K (.ref C) f=some (some u)
 rel:RelV v u
 get:PySem.W.specialIn K u "__get__"=some none
 cp:PySem.W.copiedNames.contains f=false
structure Meth (K:PySem.W.Frag) (C:Addr) (m:Str) (f:Addr):Prop where
 at_:PySem.W.findIn K (.ref C) m=some (some (.ref f))
 fn:PySem.W.isFn K (.ref f)=true
 kp:PySem.W.keepIn K (.ref f)=true
section
variable {X:Cx} {pins:List (Addr×Obj)} {σ:St} {H:Hp} {s:Shared} {a C dx:Addr} {fs:List (Str×V)} {f:Str} {v:V} {A:Around} {E:Value→Shared→Prop}
theorem Inv.made (I:Inv X pins σ H s):Inv X pins σ (upd (upd H s.heap.objs.size (.own (s.heap.objs.size + 1))) (s.heap.objs.size + 1) (.ins C s.heap.objs.size []))
  { s with heap:=(s.heap.push PySem.W.emptyDict).push (PySem.W.instObj C s.heap.objs.size) }:=by
 have e1:(s.heap.push PySem.W.emptyDict).get? s.heap.objs.size=some PySem.W.emptyDict:=Heap.get?_push_size s.heap rfl
 have e2:((s.heap.push PySem.W.emptyDict).push (PySem.W.instObj C s.heap.objs.size)).get? (s.heap.objs.size + 1)=some (PySem.W.instObj C s.heap.objs.size):=by
  have:=Heap.get?_push_size (s.heap.push PySem.W.emptyDict) (o:=PySem.W.instObj C s.heap.objs.size) rfl
  rwa [Heap.size_push] at this
 have e3:(s.heap.push PySem.W.emptyDict).Ns s.heap.objs.size (fun _=>none):=⟨PySem.W.emptyDict,#[],_,e1,rfl,(fun e he=>absurd he (by simp)),fun _=>rfl⟩
 have I1:=I.laid (a:=s.heap.objs.size) (o:=.own (s.heap.objs.size + 1)) (h':=s.heap.push PySem.W.emptyDict) (t':=s.toks) (fun b u q=>Heap.get?_push_of_some _ q) (Nat.le_refl _) ⟨_,e1⟩
 refine I1.laid (a:=s.heap.objs.size + 1) (o:=.ins C s.heap.objs.size []) (t':=s.toks) (fun b u q=>Heap.get?_push_of_some _ q) (Nat.le_of_eq (Heap.size_push _ _)) ?_
 have ne:s.heap.objs.size≠s.heap.objs.size + 1:=Nat.ne_of_lt (Nat.lt_succ_self _)
 refine ⟨by rw [aO ne,aK],Nat.zero_le _,ne,e2,fun _=>none,(Heap.Ns1.of_empty e3).at fun o q=>Heap.get?_push_of_some _ q,fun _=>True.intro,fun y hy=>absurd rfl hy⟩
end
section
variable {X:Cx} {o e value:Expr} {f:Str} {pos pos' tpos:Pos} {ta tv:TE}
end
section
variable {X:Cx} {pins:List (Addr×Obj)} {σ:St} {H:Hp} {s:Shared} {A:Around} {E:Value→Shared→Prop} {Q:Value→Shared→Prop} {c:Value} {b:Bool}
inductive kE (K:PySem.W.Frag) (H:Hp):V→Value→Prop where
 | non:kE K H .non (.type "NoneType")
 | bl (x:Bool):kE K H (.bl x) (.type "bool")
 | int (i:Int):kE K H (.int i) (.type "int")
 | str (x:Str):kE K H (.str x) (.type "str")
 | flt (x:UInt64):kE K H (.flt x) (.type "float")
 | lst {a:Addr} {xs:List V} (e:H a=some (.lst xs)):kE K H (.ref a) (.type "list")
 | zP {a:Addr} {o:Obj} {xs:List V} (e:H a=some (.zP o (.lst xs))):kE K H (.ref a) (.type "list")
 | tup {a:Addr} {xs:List V} (e:H a=some (.tup xs)):kE K H (.ref a) (.type "tuple")
 | dK {a:Addr} {kvs:List (Key×V)} (e:H a=some (.dK kvs)):kE K H (.ref a) (.type "dict")
 | dT {a:Addr} {kvs:List (List Key×V)} (e:H a=some (.dT kvs)):kE K H (.ref a) (.type "dict")
 | ins {a C dx:Addr} {fs:List (Str×V)} (e:H a=some (.ins C dx fs)) (cl:YF K C) (ha:PySem.W.findIn K (.ref C) "__class__"=some (some (.builtin "object.__class__")))
   (hn:PySem.W.specialIn K (.builtin "object.__class__") "__get__"=some (some (.builtin "getset_descriptor.__get__"))) (htk:PySem.W.takesIn K (.builtin "object.__class__")=some true)
   (hm:PySem.W.mroIn K C (.type "object")=some true):kE K H (.ref a) (.ref C)
theorem HQ {x:V} {u t:Value} (I:Inv X pins σ H s) (rx:RelV x u) (ty:kE X.K H x t) (e:PySem.W.kitOne X.K t c=some b) (h:∀tk,Q (.bool b) { s with toks:=tk }):
  wpAny (model X.prog X.w) A (call (.builtin "isinstance") [u,c]) Q E s:=by
 cases ty with
 | non=>cases (show u=Value.none from rx); exact PySem.W.kia_one PySem.W.kitx_none I.p6 True.intro e (fun z=>nomatch z) h
 | bl y=>cases (show u=Value.bool y from rx); exact PySem.W.kia_one PySem.W.kitx_bool I.p6 True.intro e (fun z=>nomatch z) h
 | int i=>obtain ⟨t,q⟩:=(show ∃t,u=Value.int i t from rx); cases q; exact PySem.W.kia_one PySem.W.kitx_int I.p6 True.intro e (fun z=>nomatch z) h
 | str y=>obtain ⟨t,q⟩:=(show ∃t,u=Value.str y t from rx); cases q; exact PySem.W.kia_one PySem.W.kitx_str I.p6 True.intro e (fun z=>nomatch z) h
 | flt y=>obtain ⟨t,q⟩:=(show ∃t,u=Value.float y t from rx); cases q; exact PySem.W.kia_one PySem.W.kitx_float I.p6 True.intro e (fun z=>nomatch z) h
 | @lst a xs ea=>
  cases (show u=Value.ref a from rx)
  obtain ⟨_,_,n,_,h1⟩:=(show bV X.prog X.w H s.heap a (.lst xs) from I.hok a _ ea)
  exact PySem.W.kia_one PySem.W.kitx_list I.p6 ⟨_,h1,rfl⟩ e (fun z=>nomatch z) h
 | @zP a ob xs ea=>
  cases (show u=Value.ref a from rx)
  obtain ⟨_,_,_,n,_,h1⟩:=(show bV X.prog X.w H s.heap a (.zP ob (.lst xs)) from I.hok a _ ea)
  exact PySem.W.kia_one PySem.W.kitx_list I.p6 ⟨_,h1,rfl⟩ e (fun z=>nomatch z) h
 | @tup a xs ea=>
  cases (show u=Value.ref a from rx)
  obtain ⟨_,_,_,p⟩:=(show bV X.prog X.w H s.heap a (.tup xs) from I.hok a _ ea)
  obtain ⟨o,h1,h2,_⟩:=p
  exact PySem.W.kia_one PySem.W.kitx_tuple I.p6 ⟨o,h1,h2⟩ e (fun z=>nomatch z) h
 | @dK a kvs ea=>
  cases (show u=Value.ref a from rx)
  obtain ⟨_,_,vs,_,p⟩:=(show bV X.prog X.w H s.heap a (.dK kvs) from I.hok a _ ea)
  obtain ⟨o,es,ep,h1,h2,_⟩:=p
  exact PySem.W.kia_one PySem.W.kitx_dict I.p6 ⟨o,h1,h2.1⟩ e (fun z=>nomatch z) h
 | @dT a kvs ea=>
  cases (show u=Value.ref a from rx)
  obtain ⟨_,_,xs,_,o,es,ep,h1,h2,_⟩:=(show bV X.prog X.w H s.heap a (.dT kvs) from I.hok a _ ea)
  exact PySem.W.kia_one PySem.W.kitx_dict I.p6 ⟨o,h1,h2.1⟩ e (fun z=>nomatch z) h
 | @ins a C dx fs ea cl ha hn htk hm=>
  cases (show u=Value.ref a from rx)
  obtain ⟨mA,O,_⟩:=Fg I.hok ea
  obtain ⟨od,J,_⟩:=O.look
  exact PySem.W.kia_one (PySem.W.kitx_own (cl.get _) cl.hd ha hn htk hm) I.p6 J e (fun z=>nomatch z) h
end
end L2
namespace L2
open PySem PySem.Spec PyProof.Rows
structure fB (k:Nat) (A:Around):Prop where
 hd:A.handled=none
 dp:A.depth + 3 * k + 5 < recursionLimit
 un:A.units + 16 * k + 200 < cLine
 gd:A.guards=some []
theorem fB.mono {j k:Nat} {A:Around} (r:fB k A) (h:j≤k):fB j A:=⟨r.hd,by have:=r.dp; omega,by have:=r.un; omega,r.gd⟩
theorem fB.deeper {k:Nat} {A:Around} (r:fB (k + 1) A) (env:Env):fB k (A.deeper env):=
 ⟨r.hd,by have:=r.dp; show A.depth + 1 + 3 * k + 5 < _; omega,by have:=r.un; show A.units + 3 + 16 * k + 200 < _; omega,r.gd⟩
theorem fB.in1 {k:Nat} {A:Around} (r:fB (k + 1) A):fB k A.in1:=
 ⟨r.hd,by have:=r.dp; show A.depth + 3 * k + 5 < _; omega,by have:=r.un; show A.units + 1 + 16 * k + 200 < _; omega,r.gd⟩
theorem fB.depth {k:Nat} {A:Around} (r:fB k A):A.depth < recursionLimit:=by have:=r.dp; omega
theorem fB.units {k:Nat} {A:Around} (r:fB k A):A.units + 64 < cLine:=by have:=r.un; omega
theorem fB.TF {k:Nat} {A:Around} (r:fB k A):A.units < cLine:=by have:=r.un; omega
noncomputable def YG:TA:=fun _ H Q=>Q [] H
noncomputable def Wb (ta:TE) (tr:TA):TA:=fun σ H Q=>ta σ H fun x H1=>tr σ H1 fun xs H2=>Q (x::xs) H2
section
variable {X:Cx} {e:Expr} {es:List Expr} {te:TE} {t:TA} {pos:Pos}
theorem jb:PA X [] YG:=fun _ _ _ _ H Q I h=>Calls.spliced_nil ⟨[],H,I,.nil,h⟩
theorem dw (ha:PE X e te) (hr:PA X es t) (hs:starEach (e::es) X.env=(false,eval e X.env)::starEach es X.env:=by rfl):PA X (e::es) (Wb te t):=by
 intro pos pins s σ H Q I h
 rw [hs]
 show wpAny _ _ (spliced ((false,eval e X.env)::backTo pos (starEach es X.env))) _ _ s
 refine Calls.spliced_cons (cF (ha pins s σ H _ I h) fun u s1 aR=>?_)
 obtain ⟨x,H1,I1,r1,q1⟩:=aR
 exact cF (hr pos pins s1 σ H1 _ I1 q1) fun us s2 ⟨xs,H2,I2,r2,q2⟩=>⟨x::xs,H2,I2,.cons r1 r2,q2⟩
noncomputable def YH (t:TA):TE:=fun σ H Q=>t σ H fun xs H1=>xs.length≤sizeLine∧∀p,H1 p=none→Q (.ref p) (upd H1 p (.tup xs))
noncomputable def YJ (t:TA):TE:=fun σ H Q=>t σ H fun xs H1=>xs.length≤sizeLine∧∀p,H1 p=none→Q (.ref p) (upd H1 p (.lst xs))
theorem CJ {x1} (h:PA X es t):PE X (.Tuple es x1 pos) (YH t):=by
 intro pins s σ H Q I hq
 refine wpAny_Tuple_spliced (cF (h pos pins s σ H _ I hq) fun us s1 ⟨xs,H1,I1,r,z,q⟩=>⟨by rw [←r.length]; exact z,?_⟩)
 have hf:H1 s1.heap.objs.size=none:=I1.hok.fresh (Nat.le_refl _)
 refine ⟨.ref s1.heap.objs.size,upd H1 s1.heap.objs.size (.tup xs),I1.laid (t':=s1.toks) (fun b u e=>Heap.get?_push_of_some _ e) (Nat.le_refl _) ?_,rfl,q _ hf⟩
 exact ⟨z,us,r,⟨_,Heap.get?_push_size _ rfl,rfl,_,rfl⟩⟩
theorem TJ (h:PA X es t):PE X (.List es pos) (YJ t):=by
 intro pins s σ H Q I hq
 refine wpAny_List_spliced (cF (h pos pins s σ H _ I hq) fun us s1 ⟨xs,H1,I1,r,z,q⟩=>⟨by rw [←r.length]; exact z,?_⟩)
 have hf:H1 s1.heap.objs.size=none:=I1.hok.fresh (Nat.le_refl _)
 refine ⟨.ref s1.heap.objs.size,upd H1 s1.heap.objs.size (.lst xs),I1.laid (t':=s1.toks) (fun b u e=>Heap.get?_push_of_some _ e) (Nat.le_refl _) ?_,rfl,q _ hf⟩
 exact ⟨z,us,0,r,Heap.get?_push_size _ rfl⟩
end
noncomputable abbrev Sp:=List V→Hp→VK→XK→Prop
noncomputable abbrev HR:=List Env→Hp→Shared→XK→Value→Shared→Prop
structure CN (P:Program) (w:World) (K:PySem.W.Frag) (mg:Str→Option Value) (base:Heap) (A:Around) (outer:List Env) (s:Shared) (H:Hp):Prop where
 frames:A.frames=some outer
 mod:Mod K mg base
 bs:∀b o,base.get? b=some o→s.heap.get? b=some o∧H b=none
 NK:base.objs.size≤s.heap.objs.size
 sI:s.heap.FunFrames base outer
 SQ:∀b∈frs outer,H b=none
 hok:oE P w H s.heap
 bare:AllBare s.gens
noncomputable def CE (outer:List Env) (P:Program) (w:World) (H:Hp) (s:Shared) (Q:VK) (u:Value) (s':Shared):Prop:=
 ∃v H',s'.os=s.os∧AllBare s'.gens∧Un (frs outer) [] H H' s.heap s'.heap∧oE P w H' s'.heap∧RelV v u∧Q v H'
noncomputable def CR (CX:HR) (outer:List Env) (P:Program) (w:World) (H:Hp) (s:Shared) (Q:VK) (E:XK) (r:Result) (s':Shared):Prop:=
 match r with
 | .ok (.ret u)=>CE outer P w H s Q u s'
 | .ok _=>False
 | .error e=>CX outer H s E e s'
structure dD (P:Program) (w:World) (K:PySem.W.Frag) (mg:Str→Option Value) (base:Heap) (CX:HR) (k:Nat) (f:Addr) (fd:FuncData) (ps:List Str) (sp:Sp):Prop where
 len:∀vs H Q E,sp vs H Q E→vs.length=ps.length
 run:∀(A:Around) (outer:List Env) (s:Shared) (H:Hp) (args:Args) (us:List Value) (vs:List V) (Q:VK) (E:XK),fB k A→CN P w K mg base A outer s H→BindsTo s fd args (ps.zip us)→Vals vs us→sp vs H Q E→
  codeAny (model P w) A (.call (.ref f) args) (CR CX outer P w H s Q E) s
theorem dD.mono {P:Program} {w:World} {K:PySem.W.Frag} {mg:Str→Option Value} {base:Heap} {CX:HR} {j k:Nat} {f:Addr} {fd:FuncData} {ps:List Str} {sp:Sp} (F:dD P w K mg base CX j f fd ps sp) (h:j≤k):
  dD P w K mg base CX k f fd ps sp:=⟨F.len,fun A outer s H args us vs Q E hr=>F.run A outer s H args us vs Q E (hr.mono h)⟩
theorem dD.imp {P:Program} {w:World} {K:PySem.W.Frag} {mg:Str→Option Value} {base:Heap} {CX:HR} {k:Nat} {f:Addr} {fd:FuncData} {ps:List Str} {sp sp':Sp} (F:dD P w K mg base CX k f fd ps sp)
  (h:∀vs H Q E,sp' vs H Q E→sp vs H Q E):dD P w K mg base CX k f fd ps sp':=
 ⟨fun vs H Q E q=>F.len vs H Q E (h _ _ _ _ q),fun A outer s H args us vs Q E hr he hb hv hs=>F.run A outer s H args us vs Q E hr he hb hv (h _ _ _ _ hs)⟩
theorem CN.in1 {P:Program} {w:World} {K:PySem.W.Frag} {mg:Str→Option Value} {base:Heap} {A:Around} {outer:List Env} {s:Shared} {H:Hp} (e:CN P w K mg base A outer s H):
  CN P w K mg base A.in1 outer s H:=⟨e.frames,e.mod,e.bs,e.NK,e.sI,e.SQ,e.hok,e.bare⟩
section
variable {X:Cx} {pins:List (Addr×Obj)} {σ:St} {H:Hp} {s s':Shared}
theorem Inv.env0 (I:Inv X pins σ H s):CN X.prog X.w X.K X.mg X.base X.A X.stack s H:=
 ⟨I.ok.frames,I.ok.mod,I.bs,Nat.le_trans I.ok.NK I.sz,I.stack,I.Ey,I.hok,I.bare⟩
theorem Inv.after {Q:VK} {u:Value} (I:Inv X pins σ H s) (h:CE X.stack X.prog X.w H s Q u s'):EP X pins σ Q u s':=by
 obtain ⟨v,H',os,bare,un,hok,r,q⟩:=h
 obtain ⟨hh,g,d,t,os'⟩:=s'
 obtain rfl:os'=s.os:=os
 exact ⟨v,H',I.call (h':=hh) (g':=g) (d':=d) (t':=t) (ch:=[]) un hok bare (fun b z=>absurd z (by simp)),r,q⟩
end
noncomputable def J7 (sp:Sp) (Rm:List V) (E:XK) (t:TA):TE:=fun σ H Q=>t σ H fun vs H1=>sp (vs++Rm) H1 Q E
noncomputable def Binds (K:PySem.W.Frag) (fd:FuncData) (ps:List Str) (ds:List Value):Prop:=
 ∀(s:Shared) (us:List Value),K.In s.heap→(us++ds).length=ps.length→BindsTo s fd ⟨us,[]⟩ (ps.zip (us++ds))
theorem Binds.all {K:PySem.W.Frag} {fd:FuncData} {ps:List Str} (h:∀us:List Value,us.length=ps.length→bindArgs fd ⟨us,[]⟩=pure (ps.zip us)):Binds K fd ps []:=fun s us _ hl=>by
 rw [List.append_nil] at hl ⊢
 exact .of_eq (h us hl)
noncomputable def Passes (CX:HR) (X:Cx) (E:XK):Prop:=∀(pins:List (Addr×Obj)) (σ:St) (H:Hp) (s:Shared) (e:Value) (s':Shared),Inv X pins σ H s→CX X.stack H s E e s'→X.xe e s'
section
variable {X:Cx} {CX:HR} {k:Nat} {f C:Addr} {fd:FuncData} {ps:List Str} {sp:Sp} {Rm:List V} {ds:List Value} {E:XK} {x m:Str} {p pos apos:Pos} {e o:Expr} {es:List Expr} {ta:TE} {t:TA}
theorem TQ {pins:List (Addr×Obj)} {σ:St} {H:Hp} {s:Shared} {Q:VK} {us:List Value} {vs:List V} (F:dD X.prog X.w X.K X.mg X.base CX k f fd ps sp) (hr:fB k X.A) (hb:Binds X.K fd ps ds) (hd:Vals Rm ds) (hx:Passes CX X E)
  (I:Inv X pins σ H s) (r:Vals vs us) (h:sp (vs++Rm) H Q E):wpAny (model X.prog X.w) X.A (call (.ref f) us) (EP X pins σ Q) X.xe s:=by
 have r2:Vals (vs++Rm) (us++ds):=r.append hd
 have hl:(us++ds).length=ps.length:=by rw [←r2.length]; exact F.len _ _ _ _ h
 refine wpAny_call (codeAny_mono (F.run X.A X.stack s H ⟨us,[]⟩ (us++ds) (vs++Rm) Q E hr I.env0 (hb s us I.p6 hl) r2 h) fun r s' hq=>?_)
 cases r with
 | error e=>exact hx pins σ H s e s' I hq
 | ok fl=>
  cases fl with
  | ret u=>exact I.after hq
  | next=>exact False.elim hq
  | brk=>exact False.elim hq
  | cont=>exact False.elim hq
theorem Ot (F:dD X.prog X.w X.K X.mg X.base CX k f fd ps sp) (hr:fB k X.A) (hg:Gl X x) (hm:X.mg x=some (.ref f)) (hk:PySem.W.keepIn X.K (.ref f)=true) (hb:Binds X.K fd ps ds) (hd:Vals Rm ds) (hx:Passes CX X E)
  (ha:PA X (e::es) t) (hdb:(x==("__debug__":Str))=false:=by decide) (he:starEach (e::es) X.env=(false,eval e X.env)::starEach es X.env:=by rfl) (hpl:(backTo pos (starEach es X.env)).any (·.1)=false:=by rfl):
  PE X (.Call (.Name x p) (e::es) [] pos) (J7 sp Rm E t):=by
 intro pins s σ H Q I h
 refine wpAny_Call_Name_kw (Oe I hg hm ?_ hdb)
 refine PySem.W.callWith_K (h₀:=X.base) I.ok.mod.Yl hk (cF (ha pos pins s σ H _ I h) fun us s1 ⟨vs,H1,I1,r,q⟩=>⟨I1.p6,?_⟩) he hpl
 exact TQ F hr hb hd hx I1 r q
structure Mk (K:PySem.W.Frag) (C f:Addr):Prop where
 makes:PySem.W.makesIn K C=true
 init:PySem.W.findIn K (.ref C) "__init__"=some (some (.ref f))
 fn:PySem.W.isFn K (.ref f)=true
 kp:PySem.W.keepIn K (.ref C)=true
end
section
variable {X:Cx} {CX:HR} {k:Nat} {f C:Addr} {fd:FuncData} {ps ks:List Str} {sp:Sp} {E:XK} {x m:Str} {p pos apos kpos:Pos} {e o:Expr} {es:List Expr} {kws:List Keyword} {te ta:TE} {t tk:TA} {nm:Option Str}
structure YK (K:PySem.W.Frag) (fd:FuncData) (ps ks:List Str) (g:List Value→List Value→List Value) (gV:List V→List V→List V):Prop where
 to:∀(s:Shared) (us ws:List Value),K.In s.heap→(g us ws).length=ps.length→BindsTo s fd ⟨us,ks.zip ws⟩ (ps.zip (g us ws))
 rel:∀{vs:List V} {us:List Value} {zs:List V} {ws:List Value},Vals vs us→Vals zs ws→Vals (gV vs zs) (g us ws)
variable {g:List Value→List Value→List Value} {gV:List V→List V→List V}
end
structure cg (N P:List Str) (sc:Scope):Prop where
 kind:sc.kind=.function
 co:sc.isCoroutine=false
 gen:sc.isGenerator=false
 nd:N.Nodup
 pre:N.take P.length=P
 par:∀x∈P,sc.names.lookup x=some .local∨sc.names.lookup x=some .cell
 TV:∀y∈sc.names,y.2≠.free
theorem wK {kindOf:Str→Option NameKind} {x:Str}:∀{binds:List (Str×Value)} {m:Str→Option Value},(∀v,(x,v)∉binds)→bindL kindOf binds m x=m x
 | [],_,_=>rfl
 | (n,v)::r,m,h=>by
  unfold bindL
  rw [wK fun w hw=>h w (List.mem_cons_of_mem _ hw)]
  split
  ·have:x≠n:=by rintro rfl; exact h v List.mem_cons_self
   simp [this]
  ·rfl
theorem wL {kindOf:Str→Option NameKind} {x:Str}:∀{binds:List (Str×Value)} {m:Str→Option Value},(∀v,(x,v)∉binds)→bindC kindOf binds m x=m x
 | [],_,_=>rfl
 | (n,v)::r,m,h=>by
  unfold bindC
  rw [wL fun w hw=>h w (List.mem_cons_of_mem _ hw)]
  split
  ·rfl
  ·have:x≠n:=by rintro rfl; exact h v List.mem_cons_self
   simp [this]
theorem wM {kindOf:Str→Option NameKind} {x:Str} {v:Value}:∀{P:List Str} {vs:List Value} {i:Nat} {m:Str→Option Value},P.Nodup→P[i]?=some x→vs[i]?=some v→kindOf x=some .local→
  bindL kindOf (P.zip vs) m x=some v
 | [],_,_,_,_,h,_,_=>by simp at h
 | _::_,[],_,_,_,_,h,_=>by simp at h
 | p::P,w::vs,0,m,nd,h1,h2,hk=>by
  simp at h1 h2; subst h1; subst h2
  show bindL kindOf ((p,w)::P.zip vs) m p=_
  unfold bindL
  rw [wK fun v hv=>(List.nodup_cons.mp nd).1 (List.of_mem_zip hv).1,if_pos hk]
  simp
 | p::P,w::vs,i + 1,m,nd,h1,h2,hk=>by
  show bindL kindOf ((p,w)::P.zip vs) m x=_
  unfold bindL
  exact wM (i:=i) (List.nodup_cons.mp nd).2 (by simpa using h1) (by simpa using h2) hk
theorem wN {kindOf:Str→Option NameKind} {x:Str} {v:Value}:∀{P:List Str} {vs:List Value} {i:Nat} {m:Str→Option Value},P.Nodup→P[i]?=some x→vs[i]?=some v→kindOf x≠some .local→
  bindC kindOf (P.zip vs) m x=some v
 | [],_,_,_,_,h,_,_=>by simp at h
 | _::_,[],_,_,_,_,h,_=>by simp at h
 | p::P,w::vs,0,m,nd,h1,h2,hk=>by
  simp at h1 h2; subst h1; subst h2
  show bindC kindOf ((p,w)::P.zip vs) m p=_
  unfold bindC
  rw [wL fun v hv=>(List.nodup_cons.mp nd).1 (List.of_mem_zip hv).1,if_neg hk]
  simp
 | p::P,w::vs,i + 1,m,nd,h1,h2,hk=>by
  show bindC kindOf ((p,w)::P.zip vs) m x=_
  unfold bindC
  exact wN (i:=i) (List.nodup_cons.mp nd).2 (by simpa using h1) (by simpa using h2) hk
noncomputable def start (N:List Str) (vs:List V):St:=vs.map some++List.replicate (N.length - vs.length) none
noncomputable def CP (CX:HR) (P:Program) (w:World) (K:PySem.W.Frag) (mg:Str→Option Value) (base:Heap) (N:List Str) (qual:Str) (scope:Scope) (f:Addr) (cd:Value) (A:Around) (outer:List Env) (s:Shared) (H:Hp) (E:XK):Cx where
 prog:=P
 w:=w
 K:=K
 mg:=mg
 base:=base
 A:=A.deeper (envOfC qual scope s.heap.objs.size f cd)
 N:=N
 s₀:=s
 H₀:=H
 env:=envOfC qual scope s.heap.objs.size f cd
 outer:=outer
 stack:=envOfC qual scope s.heap.objs.size f cd::outer
 ex:=[]
 calm:=true
 fn:=fun _=>true
 pn:=[]
 xe:=fun e s'=>wpAny (model P w) (A.deeper (envOfC qual scope s.heap.objs.size f cd)) (leaving (envOfC qual scope s.heap.objs.size f cd) e) (fun _ s''=>CX outer H s E e s'') (fun e' s''=>CX outer H s E e' s'') s'
theorem zX {sc:Scope} {n:Nat} {x:Str} (h:sc.names.lookup x=some .cell):∃c,(cellsFrom n sc.names []).lookup x=some c:=by
 have q:=PySem.W.cellsFrom_some sc.names n [] (.inl h)
 exact Option.isSome_iff_exists.mp q
theorem HS {CX:HR} {P:Program} {w:World} {K:PySem.W.Frag} {mg:Str→Option Value} {base:Heap} {N ps:List Str} {qual:Str} {scope:Scope} {f:Addr} {cd:Value} {A:Around} {outer:List Env} {s s1:Shared} {H:Hp} {E:XK} {us:List Value} {vs:List V}
  (S:cg N ps scope) (hd:A.handled=none) (e0:CN P w K mg base A outer s H) (hl:vs.length=ps.length) (r:Vals vs us)
  (x:InCallC s s.heap.objs.size (bindL (envOfC qual scope s.heap.objs.size f cd).kindOf (ps.zip us) fun _=>none) (cellsFrom (s.heap.objs.size + 1) scope.names []) (bindC (envOfC qual scope s.heap.objs.size f cd).kindOf (ps.zip us) fun _=>none) s1):
  Inv (CP CX P w K mg base N qual scope f cd A outer s H E) [] (start N vs) H s1:=by
 have hpl:ps.length≤N.length:=by have:=congrArg List.length S.pre; rw [List.length_take] at this; omega
 obtain ⟨h1,tk,rfl,hk⟩:=x.done
 have Wc:∀b:Addr,b∉(CP CX P w K mg base N qual scope f cd A outer s H E).ex:=fun b z=>absurd (show b∈([]:List Addr) from z) (by simp)
 refine ⟨⟨e0.mod,S.kind,rfl,rfl,Nat.le_refl _,fun y z c h1 h2=>?_,fun y hy=>?_,fun y c _ h=>?_,fun _=>hd,Around.frames_deeper e0.frames,.inr ⟨rfl,rfl⟩,fun b z=>absurd z (Wc b),e0.bs,e0.NK,fun b _ _=>Wc b,fun b z=>absurd z (Wc b),e0.sI,e0.SQ⟩,
  rfl,e0.bare,Un.kept hk,⟨_,x.toInCall.ns,fun i y v h1 h2 h3=>?_⟩,fun y c h=>⟨_,x.cell y c h⟩,e0.hok.fresh (Nat.le_refl _),fun y c h=>?_,fun p hp=>absurd (show p∈([]:List (Addr×Obj)) from hp) (by simp),e0.hok.kept hk,?_⟩
 ·exact name_of_addr x.apart (PySem.mem_of_lookup h1) (PySem.mem_of_lookup h2)
 ·have hy:scope.names.lookup y=some .cell∨scope.names.lookup y=some .free:=hy
  rcases hy with hy | hy
  ·exact zX hy
  ·exact absurd rfl (S.TV _ (PySem.mem_of_lookup hy))
 ·exact Nat.le_of_lt (x.above y c (PySem.mem_of_lookup h))
 ·have hi:i < vs.length:=by
   unfold start at h2
   by_cases hi:i < vs.length
   ·exact hi
   ·rw [List.getElem?_append_right (by simpa using hi)] at h2
    rw [List.getElem?_replicate] at h2
    split at h2 <;> cases h2
  have ha:vs[i]?=some v:=by
   unfold start at h2
   rw [List.getElem?_append_left (by simpa using hi),List.getElem?_map] at h2
   cases e:vs[i]? with
   | none=>rw [e] at h2; cases h2
   | some a=>rw [e] at h2; cases h2; rfl
  obtain ⟨u,hu,rv⟩:=r.get ha
  have hp:ps[i]?=some y:=by
   rw [←S.pre,List.getElem?_take_of_lt (by omega)]; exact h1
  have ndP:ps.Nodup:=by rw [←S.pre]; exact S.nd.sublist (List.take_sublist _ _)
  refine ⟨u,rv,?_⟩
  rcases S.par y (List.mem_of_getElem? hp) with k | k
  ·exact .inl ⟨k,wM ndP hp hu k⟩
  ·obtain ⟨c,e⟩:=zX (n:=s.heap.objs.size + 1) k
   refine .inr ⟨.inl k,c,e,?_⟩
   have q:=x.cell y c e
   rw [wN ndP hp hu (by show scope.names.lookup y≠_; rw [k]; decide)] at q
   exact q
 ·exact e0.hok.fresh (Nat.le_of_lt (x.above y c (PySem.mem_of_lookup h)))
 ·unfold start
  show _=N.length
  rw [List.length_append,List.length_map,List.length_replicate]
  omega
theorem Wd {CX:HR} {P:Program} {w:World} {K:PySem.W.Frag} {mg:Str→Option Value} {base:Heap} {k:Nat} {f:Addr} {name qual:Str} {params:Arguments} {body:List Stmt} {scope:Scope} {dV kV doc pm cdv ct oc:Value} {an od:Option Addr}
  {osl:Array (Option Value)} {N ps:List Str} {sp:Sp} (lk:K.lookup f=some ⟨oc,od,.func (PySem.W.fnOf name qual params body scope dV kV doc pm an cdv ct),osl⟩) (hcd:PySem.W.codeIn K cdv qual=true) (S:cg N ps scope)
  (len:∀vs H Q E,sp vs H Q E→vs.length=ps.length)
  (hbody:∀(A:Around) (outer:List Env) (s:Shared) (H:Hp) (vs:List V) (Q:VK) (E:XK),fB k (A.deeper (envOfC qual scope s.heap.objs.size f cdv))→sp vs H Q E→
   ∃t,sJ (CP CX P w K mg base N qual scope f cdv A outer s H E) body t∧t { nx:=fun _ H'=>Q .non H',rt:=Q } (start N vs) H):
  dD P w K mg base CX (k + 1) f (PySem.W.fnOf name qual params body scope dV kV doc pm an cdv ct) ps sp:=by
 refine ⟨len,fun A outer s H args us vs Q E hr e0 hb r hsp=>?_⟩
 have hl:=len _ _ _ _ hsp
 have KX:K.In s.heap:=e0.mod.Yl.keeps fun b o e=>(e0.bs b o e).1
 have lim:s.heap.NoLimit:=e0.mod.nolimit.keeps fun b o e=>(e0.bs b o e).1
 have hkind:∀y∈ps.zip us,scope.names.lookup y.1=some .local∨(scope.names.lookup y.1=some .cell∧((cellsFrom (s.heap.objs.size + 1) scope.names []).lookup y.1).isSome=true):=fun ⟨n,v⟩ hy=>by
  rcases S.par n (List.of_mem_zip hy).1 with q | q
  ·exact .inl q
  ·exact .inr ⟨q,PySem.W.cellsFrom_some _ _ _ (.inl q)⟩
 refine codeAny_call_function hr.depth (KX _ _ lk) rfl S.co S.gen rfl (PySem.W.codeRec_of KX hcd) (hb _ _ _ _ ?_)
 refine wpAny_newFunctionEnv_cells S.kind hkind fun env he s1 x=>?_
 subst he
 refine ⟨lim.keeps x.toInCall.keep,codeAny_func ?_⟩
 obtain ⟨t,ht,hq⟩:=hbody A outer s H vs Q E (hr.deeper _) hsp
 have I:Inv (CP CX P w K mg base N qual scope f cdv A outer s H E) [] (start N vs) H s1:=HS S hr.hd e0 hl r x
 refine wpAny_mono (ht [] s1 (start N vs) H _ I hq) (fun fl s' hs=>?_) fun e s' hs=>hs
 have fin:∀{σ':St} {H':Hp} {v:V} {u:Value},Inv (CP CX P w K mg base N qual scope f cdv A outer s H E) [] σ' H' s'→RelV v u→Q v H'→CE outer P w H s Q u s':=
  fun {σ' H' v u} J rv q=>⟨v,H',J.os,J.bare,J.base,J.hok,rv,q⟩
 cases fl with
 | ret u=>
  obtain ⟨v,σ',H',J,rv,q⟩:=hs
  exact fin J rv q
 | next=>
  obtain ⟨σ',H',J,q⟩:=hs
  exact fin (v:=V.non) (u:=Value.none) J rfl q
 | brk=>
  obtain ⟨_,_,_,q⟩:=hs
  exact False.elim q
 | cont=>
  obtain ⟨_,_,_,q⟩:=hs
  exact False.elim q
end L2
namespace L2
open PySem PySem.Spec PyProof.Rows
section
variable {X:Cx} {x:Str} {p pos:Pos} {e:Expr} {es:List Expr} {t:TA} {id T:String} {r:List V→Hp→VK→Prop}
noncomputable def YL (r:List V→Hp→VK→Prop) (t:TA):TE:=fun σ H Q=>t σ H fun vs H1=>r vs H1 Q
theorem oH (hc:cI X (.builtin id) r) (hg:Gl X x) (hm:X.mg x=none) (hv:bootBuiltins x=some (.builtin id)) (ha:PA X (e::es) t) (hn:x≠"__name__":=by decide) (hdb:(x==("__debug__":Str))=false:=by decide)
  (he:starEach (e::es) X.env=(false,eval e X.env)::starEach es X.env:=by rfl) (hpl:(backTo pos (starEach es X.env)).any (·.1)=false:=by rfl):PE X (.Call (.Name x p) (e::es) [] pos) (YL r t):=by
 intro pins s σ H Q I h
 refine wpAny_Call_Name_kw (gP I hg hm hv ?_ hn hdb)
 exact PyProof.Rows.callWith_builtin1 (cF (ha pos pins s σ H _ I h) fun us s1 ⟨vs,H1,I1,r1,q1⟩=>hc pins s1 σ H1 vs us Q I1 r1 q1) he hpl
theorem HW (hc:cI X (.type T) r) (hg:Gl X x) (hm:X.mg x=none) (hv:bootBuiltins x=some (.type T)) (ha:PA X (e::es) t) (hn:x≠"__name__":=by decide) (hdb:(x==("__debug__":Str))=false:=by decide)
  (he:starEach (e::es) X.env=(false,eval e X.env)::starEach es X.env:=by rfl) (hpl:(backTo pos (starEach es X.env)).any (·.1)=false:=by rfl):PE X (.Call (.Name x p) (e::es) [] pos) (YL r t):=by
 intro pins s σ H Q I h
 refine wpAny_Call_Name_kw (gP I hg hm hv ?_ hn hdb)
 exact PyProof.Rows.callWith_type1 (cF (ha pos pins s σ H _ I h) fun us s1 ⟨vs,H1,I1,r1,q1⟩=>hc pins s1 σ H1 vs us Q I1 r1 q1) he hpl
end
end L2
namespace HT
open PySem PyProof.Rows
section
open PySem.SeqAt
open PySem.AutoSeq1 (wpAny_loadPart')
open PySem.MeetsSeq PySem.MeetsSeq2 PySem.MeetsSeq3
end
section
variable {prog:Program} {w:World} {A:Around} {E:Value→Shared→Prop} {s:Shared}
theorem Ou {t b:Addr} {vs ws:List Value} {Q:Value→Shared→Prop} (ht:IsTup s.heap t vs.toArray) (hb:IsTup s.heap b ws.toArray) (hv:vs≠[])
  (h1:ws=[]→Q (.ref t) s) (h2:ws≠[]→Q (.ref s.heap.objs.size) { s with heap:=s.heap.push { cls:=.type "tuple",data:=.seq (vs++ws).toArray } })
  (hsz:vs.length + ws.length≤sizeLine):wpAny (model prog w) A (binaryOp .Add (.ref t) (.ref b)) Q E s:=by
 obtain ⟨⟨cls,dd,data,sl⟩,ho,hc,n,hd⟩:=id ht
 obtain ⟨⟨cls2,dd2,data2,sl2⟩,ho2,hc2,n2,hd2⟩:=id hb
 simp only at hc hd hc2 hd2
 subst hc hd hc2 hd2
 have e:vs.toArray++ws.toArray=(vs++ws).toArray:=by simp
 by_cases hw:ws=[]
 ·exact concat_meets ⟨_,ho,rfl⟩ ⟨_,ho2,rfl⟩ noFill_tuple_add seq_tuple_add PySem.F.slot_tuple_add PySem.F.entry_tuple_add (PySem.F.args_tuple_add_2 _ _)
   (tuple_addW1 t b vs.toArray ws.toArray n n2 dd dd2 sl sl2 (by simpa using hv) (by simp [hw])) ⟨ho,ho2,h1 hw⟩
 ·refine concat_meets ⟨_,ho,rfl⟩ ⟨_,ho2,rfl⟩ noFill_tuple_add seq_tuple_add PySem.F.slot_tuple_add PySem.F.entry_tuple_add (PySem.F.args_tuple_add_2 _ _)
   (tuple_addW2 t b vs.toArray ws.toArray n n2 dd dd2 sl sl2 (by simpa using hv) (by simpa using hw) (by rw [List.size_toArray,List.size_toArray]; exact hsz)) ⟨ho,ho2,?_⟩
  rw [e]
  exact h2 hw
noncomputable def dN (n d:Nat):Option Int→Nat
 | none=>d
 | some v=>if v < 0 then (v + (n:Int)).toNat else min v.toNat n
theorem TX (n d:Nat) (hd:d≤n) (o:Option Int):dN n d o≤n:=by
 cases o with
 | none=>exact hd
 | some v=>
  show (if v < 0 then (v + (n:Int)).toNat else min v.toNat n)≤n
  by_cases hv:v < 0
  ·rw [if_pos hv]; omega
  ·rw [if_neg hv]; exact Nat.min_le_right _ _
theorem Fi (v:Int) (n d:Nat):(if v < 0 then max (v + (n:Int)) 0 else min v (n:Int))=((dN n d (some v):Nat):Int):=by
 show (if v < 0 then max (v + (n:Int)) 0 else min v (n:Int))=(((if v < 0 then (v + (n:Int)).toNat else min v.toNat n):Nat):Int)
 by_cases hv:v < 0
 ·simp only [if_pos hv]; omega
 ·simp only [if_neg hv]; omega
theorem CQ (lo hi:Option Int) (n:Nat):Builtin.Slice.sliceAdjust lo hi 1 (n:Int)=(((dN n 0 lo:Nat):Int),((dN n n hi:Nat):Int)):=by
 have h1:¬((1:Int) < 0):=by omega
 unfold Builtin.Slice.sliceAdjust
 simp only [h1,if_false]
 refine Prod.ext ?_ ?_
 ·cases lo with
  | none=>rfl
  | some v=>exact Fi v n 0
 ·cases hi with
  | none=>rfl
  | some v=>exact Fi v n n
theorem CT (i j:Nat):Builtin.Slice.slicePlaces (i:Int) (j:Int) 1=j - i:=by
 unfold Builtin.Slice.slicePlaces
 have h1:(1:Int) > 0:=by omega
 simp only [h1,if_true,Int.ediv_one]
 split <;> omega
theorem t7 {v:Value} {o:Option Int} {Q:Option Int→Shared→Prop} (p:IsPart v o) (h:Q o s):wpAny (model prog w) A (Builtin.Slice.slicePartIndex v) Q E s:=by
 cases p with
 | none=>exact slicePart_none h
 | int i t=>exact slicePart_int h
theorem jo {sl:Addr} {vl vu:Value} {lo hi:Option Int} {n:Nat} {Q:Int×Int×Nat→Shared→Prop} (hs:s.heap.IsSliceOf sl vl vu .none) (pl:IsPart vl lo) (pu:IsPart vu hi)
  (h:Q (((dN n 0 lo:Nat):Int),1,dN n n hi - dN n 0 lo) s):wpAny (model prog w) A (Builtin.Slice.sliceApplied (.ref sl) (pure (n:Int))) Q E s:=by
 obtain ⟨os,hos,hcs,hds⟩:=id hs
 unfold Builtin.Slice.sliceApplied Builtin.Slice.sliceFields
 refine wpAny_bind (wpAny_bind (wpAny_field hos hds (x:=vl) rfl (wpAny_bind (wpAny_field hos hds (x:=vu) rfl (wpAny_bind (wpAny_field hos hds (x:=.none) rfl (wpAny_pure ?_)))))))
 refine wpAny_bind (slicePart_none ?_)
 show wpAny _ _ (if ((1:Int)==0)=true then _ else _) _ _ s
 rw [if_neg (by decide)]
 refine wpAny_bind (t7 pl (wpAny_bind (t7 pu (wpAny_bind (wpAny_pure ?_)))))
 show wpAny _ _ (match Builtin.Slice.sliceAdjust lo hi 1 (n:Int) with | (lo,hi)=>pure (lo,(1:Int),Builtin.Slice.slicePlaces lo hi 1)) _ _ s
 rw [CQ lo hi n]
 show wpAny _ _ (pure (((dN n 0 lo:Nat):Int),(1:Int),Builtin.Slice.slicePlaces ((dN n 0 lo:Nat):Int) ((dN n n hi:Nat):Int) 1)) _ _ s
 rw [CT]
 exact wpAny_pure h
theorem J8 (xs:Array Value) (i k:Nat):((List.range k).filterMap fun (m:Nat)=>xs[((i:Int) + (m:Int) * 1).toNat]?).toArray=((xs.toList.drop i).take k).toArray:=by
 have e:(fun (m:Nat)=>xs[((i:Int) + (m:Int) * 1).toNat]?)=fun m=>xs[i + m]?:=by
  funext m
  have:((i:Int) + (m:Int) * 1).toNat=i + m:=by omega
  rw [this]
 rw [e]
 have:=pick_run xs i k
 rw [List.filterMap_map] at this
 have e2:((fun x=>xs[x]?) ∘ fun x=>i + x)=fun m=>xs[i + m]?:=rfl
 rw [e2] at this
 rw [this]
theorem oJ {t sl:Addr} {items:Array Value} {vl vu:Value} {lo hi:Option Int} {Q:Value→Shared→Prop} (ht:IsTup s.heap t items) (hs:s.heap.IsSliceOf sl vl vu .none) (pl:IsPart vl lo) (pu:IsPart vu hi)
  (hw:¬(dN items.size 0 lo=0∧dN items.size items.size hi=items.size))
  (h:Q (.ref s.heap.objs.size) { s with heap:=s.heap.push { cls:=.type "tuple",data:=.seq ((items.toList.drop (dN items.size 0 lo)).take (dN items.size items.size hi - dN items.size 0 lo)).toArray } })
  (hsz:items.size≤sizeLine):wpAny (model prog w) A (getItem (.ref t) (.ref sl)) Q E s:=by
 have Fj:sizeOk (.seq ((items.toList.drop (dN items.size 0 lo)).take (dN items.size items.size hi - dN items.size 0 lo)).toArray):=by
  show ((items.toList.drop (dN items.size 0 lo)).take (dN items.size items.size hi - dN items.size 0 lo)).toArray.size≤sizeLine
  rw [List.size_toArray,List.length_take,List.length_drop,Array.length_toList]
  omega
 have hj:dN items.size items.size hi≤items.size:=TX _ _ (Nat.le_refl _) hi
 obtain ⟨os,hos,hcs,hds⟩:=id hs
 have hTs:s.TypeIs (.ref sl) "slice":=⟨os,hos,hcs⟩
 unfold getItem
 try with_reducible refine wpAny_holding ?_
 first | refine wpAny_bind (wpAny_pure ?_) | skip
 refine wpAny_bind (wpAny_sequenceKey ht.typeIs (by decide) ?_)
 refine wpAny_bind (wpAny_callSpecial?_slot (name:=Str.ofString "__getitem__") ht.typeIs PyProof.Rows.slot_tuple_getitem
  (wpAny_call_entry PyProof.Rows.slot_tuple_getitem ht.typeIs entry_tuple_getitem ?_ (args_tuple_getitem _ _)))
 show wpAny _ _ (Builtin.Tuple.tupleItemsOf (.ref t) >>= _) _ _ s
 refine wpAny_bind (tupleItemsOf_ ht ?_)
 refine wpAny_bind (wpAny_typeOf hTs ?_)
 rw [if_pos (by decide)]
 refine wpAny_bind (jo hs pl pu ?_)
 have hno:¬((((dN items.size 0 lo:Nat):Int)==0&&(1:Int)==1&&(dN items.size items.size hi - dN items.size 0 lo)==items.size)=true):=by
  intro q
  rw [Bool.and_eq_true,Bool.and_eq_true] at q
  have q1:((dN items.size 0 lo:Nat):Int)=0:=eq_of_beq q.1.1
  have q2:dN items.size items.size hi - dN items.size 0 lo=items.size:=eq_of_beq q.2
  exact hw ⟨by omega,by omega⟩
 show wpAny _ _ (if (((dN items.size 0 lo:Nat):Int)==0&&(1:Int)==1&&(dN items.size items.size hi - dN items.size 0 lo)==items.size)=true then _ else _) _ _ s
 rw [if_neg hno,J8]
 first
  | exact wpAny_bind (m:=Builtin.Tuple.tupleExact _) (wpAny_newObj_type (wpAny_pure ⟨_,rfl,wpAny_pure h⟩) Fj)
  | exact wpAny_bind (m:=Builtin.Tuple.tupleExact _) (wpAny_newObj_type (wpAny_bind (wpAny_pure (wpAny_pure ⟨_,rfl,wpAny_pure h⟩))) Fj)
  | exact wpAny_bind (wpAny_bind (m:=Builtin.Tuple.tupleExact _) (wpAny_newObj_type (wpAny_pure (wpAny_pure ⟨_,rfl,wpAny_pure h⟩)) Fj))
  | exact wpAny_bind (wpAny_bind (m:=Builtin.Tuple.tupleExact _) (wpAny_newObj_type (wpAny_pure ⟨_,rfl,wpAny_pure h⟩) Fj))
end
end HT
namespace L2
open PySem PySem.Spec PyProof.Rows
noncomputable abbrev TO:=St→Hp→(Option Int→Hp→Prop)→Prop
noncomputable def PO (X:Cx) (e:Option Expr) (t:TO):Prop:=
 ∀(pins:List (Addr×Obj)) (s:Shared) (σ:St) (H:Hp) (Q:Option Int→Hp→Prop),Inv X pins σ H s→t σ H Q→
  wpAny (model X.prog X.w) X.A (evalPart e X.env) (fun u s'=>∃o H',Inv X pins σ H' s'∧IsPart u o∧Q o H') X.xe s
noncomputable def Ov:TO:=fun _ H Q=>Q none H
noncomputable def We (t:TE):TO:=fun σ H Q=>t σ H fun x H1=>∃i,x=.int i∧Q (some i) H1
theorem intsAre_of {ns:List Int}:∀{us:List Value},Vals (ns.map V.int) us→IntsAre us ns:=by
 induction ns with
 | nil=>intro us r; rw [List.map_nil] at r; cases r; exact .nil
 | cons n ns ih=>
  intro us r
  rw [List.map_cons] at r
  cases r with
  | cons r1 r2=>
   obtain ⟨t,e⟩:=r1
   subst e
   exact .cons n t (ih r2)
section
variable {X:Cx} {e:Expr} {te:TE} {lo hi:Option Expr} {tl th:TO} {pos p2:Pos}
theorem Ow:PO X none Ov:=by
 intro pins s σ H Q I h
 rw [evalPart_none]
 exact wpAny_pure ⟨none,H,I,.none,h⟩
theorem Ox (h:PE X e te):PO X (some e) (We te):=by
 intro pins s σ H Q I hw
 rw [evalPart_some]
 refine cF (h pins s σ H _ I hw) fun u s1 aR=>?_
 obtain ⟨x,H1,I1,r1,q1⟩:=aR
 obtain ⟨i,rfl,q⟩:=q1
 obtain ⟨t,rfl⟩:=r1
 exact ⟨some i,H1,I1,.int i t,q⟩
noncomputable def Oz (X:Cx) (r:V→Option Int→Option Int→Hp→VK→Prop):Prop:=
 ∀(pins:List (Addr×Obj)) (s:Shared) (σ:St) (H:Hp) (x:V) (v vl vu:Value) (lo hi:Option Int) (sl:Addr) (Q:VK),Inv X pins σ H s→RelV x v→s.heap.IsSliceOf sl vl vu .none→IsPart vl lo→IsPart vu hi→r x lo hi H Q→
  ∃T id,typeLookup (.type T) "__getitem__"=pure (some (.builtin id))∧s.TypeIs v T∧wpAny (model X.prog X.w) X.A (getItem v (.ref sl)) (EP X pins σ Q) X.xe s
theorem Oz.or {r r':V→Option Int→Option Int→Hp→VK→Prop} (h:Oz X r) (h':Oz X r'):Oz X (fun x lo hi H Q=>r x lo hi H Q∨r' x lo hi H Q):=by
 intro pins s σ H x v vl vu lo hi sl Q I rx hs pl pu q
 rcases q with q | q
 ·exact h pins s σ H x v vl vu lo hi sl Q I rx hs pl pu q
 ·exact h' pins s σ H x v vl vu lo hi sl Q I rx hs pl pu q
noncomputable def tSl (r:V→Option Int→Option Int→Hp→VK→Prop) (te:TE) (tl th:TO):TE:=fun σ H Q=>te σ H fun x H1=>tl σ H1 fun l H2=>th σ H2 fun u H3=>r x l u H3 Q
theorem J9 {r:V→Option Int→Option Int→Hp→VK→Prop} (hr:Oz X r) (he:PE X e te) (hl:PO X lo tl) (hu:PO X hi th):PE X (.Subscript e (.Slice lo hi none p2) pos) (tSl r te tl th):=by
 intro pins s σ H Q I h
 refine Subscript_ (cF (he pins s σ H _ I h) fun v s1 aR=>?_)
 obtain ⟨x,H1,I1,r1,q1⟩:=aR
 refine wpAny_Slice (cF (hl pins s1 σ H1 _ I1 q1) fun vl s2 ⟨l,H2,I2,pl,q2⟩=>cF (hu pins s2 σ H2 _ I2 q2) fun vu s3 aR=>?_)
 obtain ⟨u,H3,I3,pu,q3⟩:=aR
 rw [evalPart_none]
 refine wpAny_pure ?_
 have I4:Inv X pins σ H3 { s3 with heap:=s3.heap.push { cls:=.type "slice",data:=.fields #[vl,vu,.none] } }:=I3.kept (t':=s3.toks) fun b ob q=>Heap.get?_push_of_some _ q
 obtain ⟨T,id,hT,ht,hg⟩:=hr pins { s3 with heap:=s3.heap.push { cls:=.type "slice",data:=.fields #[vl,vu,.none] } } σ H3 x v vl vu l u s3.heap.objs.size Q I4 r1 (Heap.IsSliceOf.new ..) pl pu q3
 show wpAny (model X.prog X.w) X.A (subscriptTail e (.Slice lo hi none p2) v (.ref s3.heap.objs.size)) (EP X pins σ Q) X.xe { s3 with heap:=s3.heap.push { cls:=.type "slice",data:=.fields #[vl,vu,.none] } }
 exact tail_any (ops:=[.ref s3.heap.objs.size,v]) ht hT hg (by with_unfolding_all rfl)
noncomputable def t8 (xs:List V) (lo hi:Option Int):List V:=(xs.drop (HT.dN xs.length 0 lo)).take (HT.dN xs.length xs.length hi - HT.dN xs.length 0 lo)
theorem rB (xs:List V) (lo hi:Option Int):(t8 xs lo hi).length≤xs.length:=by
 unfold t8
 rw [List.length_take,List.length_drop]
 omega
noncomputable def YM (K:PySem.W.Frag):V→Option Int→Option Int→Hp→VK→Prop:=fun x lo hi H Q=>∃a xs,x=.ref a∧gw K H a xs∧
 ¬(HT.dN xs.length 0 lo=0∧HT.dN xs.length xs.length hi=xs.length)∧∀p,H p=none→Q (.ref p) (upd H p (.tup (t8 xs lo hi)))
theorem TY:Oz X (YM X.K):=by
 intro pins s σ H x v vl vu lo hi sl Q I rx hs pl pu h
 obtain ⟨a,xs,rfl,hx,hw,q⟩:=h
 cases rx
 obtain ⟨its,r,ht,hz⟩:=I.tuple hx
 have hlen:its.toArray.size=xs.length:=by rw [List.size_toArray]; exact r.length.symm
 refine ⟨"tuple",_,PyProof.Rows.slot_tuple_getitem.lookup,ht.typeIs,?_⟩
 refine HT.oJ ht hs pl pu (by rw [hlen]; exact hw) ?_ (by rw [hlen]; exact hz)
 rw [hlen]
 refine ⟨.ref s.heap.objs.size,_,I.laid (t':=s.toks) (o:=.tup (t8 xs lo hi)) (fun b ob q=>Heap.get?_push_of_some _ q) (Nat.le_refl _) ?_,rfl,q _ (I.hok.fresh (Nat.le_refl _))⟩
 exact ⟨Nat.le_trans (rB xs lo hi) hz,_,(r.drop (HT.dN xs.length 0 lo)).take (HT.dN xs.length xs.length hi - HT.dN xs.length 0 lo),IsTup.new _ _⟩
noncomputable def Rn (K:PySem.W.Frag):R2:=fun x y H Q=>∃a b xs ys,x=.ref a∧y=.ref b∧gw K H a xs∧gw K H b ys∧xs≠[]∧xs.length + ys.length≤sizeLine∧
 (ys=[]→Q (.ref a) H)∧(ys≠[]→∀p,H p=none→Q (.ref p) (upd H p (.tup (xs++ys))))
theorem Vals.yx {xs:List V} {us:List Value} (r:Vals xs us):us=[] ↔ xs=[]:=by
 cases r with
 | nil=>simp
 | cons _ _=>simp
theorem OD:gA X (binaryOp .Add) (Rn X.K):=by
 intro pins s σ H x y v u Q I rx ry h
 obtain ⟨a,b,xs,ys,rfl,rfl,ha,hb,hx,hz,q1,q2⟩:=h
 cases rx
 cases ry
 obtain ⟨its,r1,p1,_⟩:=I.tuple ha
 obtain ⟨its2,r2,p2,_⟩:=I.tuple hb
 refine HT.Ou p1 p2 (fun z=>hx (r1.yx.mp z)) (fun z=>⟨.ref a,H,I,rfl,q1 (r2.yx.mp z)⟩) (fun z=>?_) (by rw [←r1.length,←r2.length]; exact hz)
 refine ⟨.ref s.heap.objs.size,_,I.laid (t':=s.toks) (o:=.tup (xs++ys)) (fun b ob q=>Heap.get?_push_of_some _ q) (Nat.le_refl _) ?_,rfl,q2 (fun w=>z (r2.yx.mpr w)) _ (I.hok.fresh (Nat.le_refl _))⟩
 exact ⟨by rw [List.length_append]; exact hz,_,r1.append r2,IsTup.new _ _⟩
end
end L2
namespace L2
open PySem PySem.Spec PyProof.Rows
noncomputable def yz (n:Nat) (i:Int):Option Nat:=if 0≤i then (if i < n then some i.toNat else none) else if -(n:Int)≤i then some (i + n).toNat else none
noncomputable def gC {α:Type} (xs:List α) (i:Int):Option α:=(yz xs.length i).bind fun j=>xs[j]?
theorem Fo {n:Nat} {i:Int} {j:Nat} (h:yz n i=some j):seqIndex? i n=some j∧j < n∧-(n:Int)≤i∧i < n:=by
 unfold yz at h
 by_cases h0:0≤i
 ·rw [if_pos h0] at h
  by_cases h1:i < n
  ·rw [if_pos h1] at h
   have e:i.toNat=j:=Option.some.inj h
   exact ⟨by rw [seqIndex_of h0 h1,e],by omega,by omega,h1⟩
  ·rw [if_neg h1] at h; cases h
 ·rw [if_neg h0] at h
  by_cases h1:-(n:Int)≤i
  ·rw [if_pos h1] at h
   have e:(i + n).toNat=j:=Option.some.inj h
   exact ⟨by rw [seqIndex_neg (by omega) h1,e],by omega,h1,by omega⟩
  ·rw [if_neg h1] at h; cases h
theorem yC {α:Type} {xs:List α} {i:Int} {v:α} (h:gC xs i=some v):∃j,seqIndex? i xs.length=some j∧xs[j]?=some v∧j < xs.length∧-(xs.length:Int)≤i∧i < xs.length:=by
 unfold gC at h
 cases e:yz xs.length i with
 | none=>rw [e] at h; cases h
 | some j=>
  rw [e] at h
  obtain ⟨h1,h2,h3,h4⟩:=Fo e
  exact ⟨j,h1,h,h2,h3,h4⟩
theorem gF {α:Type} {xs:List α} {j:Nat} {v:α} (h:xs[j]?=some v):gC xs (j:Int)=some v:=by
 have hj:j < xs.length:=(List.getElem?_eq_some_iff.mp h).1
 have e:yz xs.length (j:Int)=some j:=by
  unfold yz
  rw [if_pos (by omega),if_pos (by omega)]; simp
 unfold gC; rw [e]; exact h
noncomputable def sV (b:Expr):Prop:=∀o i,subscripted b false o i=operate [o,i] (getItem o i)
noncomputable def JF (X:Cx) (r:R2):Prop:=
 ∀(value slice:Expr) (pins:List (Addr×Obj)) (s:Shared) (σ:St) (H:Hp) (x y:V) (v u:Value) (Q:VK),Inv X pins σ H s→RelV x v→RelV y u→r x y H Q→
  subscripted slice false v u=operate [v,u] (getItem v u)→wpAny (model X.prog X.w) X.A (subscriptTail value slice v u) (EP X pins σ Q) X.xe s
noncomputable def T3 (X:Cx) (id:String) (r:V→List V→Hp→VK→Prop):Prop:=
 ∀(pins:List (Addr×Obj)) (s:Shared) (σ:St) (H:Hp) (x:V) (xs:List V) (v:Value) (us:List Value) (Q:VK),Inv X pins σ H s→RelV x v→Vals xs us→r x xs H Q→
  wpAny (model X.prog X.w) X.A (call (.builtin id) (v::us)) (EP X pins σ Q) X.xe s
section
variable {X:Cx} {a b:Expr} {ta tb:TE} {pos:Pos}
theorem JF.or {r r':R2} (h:JF X r) (h':JF X r'):JF X (fun x y H Q=>r x y H Q∨r' x y H Q):=by
 intro value slice pins s σ H x y v u Q I rx ry q hs
 rcases q with q | q
 ·exact h value slice pins s σ H x y v u Q I rx ry q hs
 ·exact h' value slice pins s σ H x y v u Q I rx ry q hs
theorem T3.or {id:String} {r r':V→List V→Hp→VK→Prop} (h:T3 X id r) (h':T3 X id r'):T3 X id (fun x xs H Q=>r x xs H Q∨r' x xs H Q):=by
 intro pins s σ H x xs v us Q I rx rs q
 rcases q with q | q
 ·exact h pins s σ H x xs v us Q I rx rs q
 ·exact h' pins s σ H x xs v us Q I rx rs q
theorem Ka {r:R2} (hr:JF X r) (ha:PE X a ta) (hb:PE X b tb) (hs:sV b):PE X (.Subscript a b pos) (V1 r ta tb):=by
 intro pins s σ H Q I h
 exact Subscript_ (Tp ha hb I h fun v u s2 x y H2 I2 rx ry q=>hr a b pins s2 σ H2 x y v u Q I2 rx ry q (hs _ _))
noncomputable def Wf (K:PySem.W.Frag):R2:=fun x y H Q=>∃p xs i v,x=.ref p∧y=.int i∧cJ K H p xs∧gC xs i=some v∧Q v H
noncomputable def Wg (K:PySem.W.Frag):R2:=fun x y H Q=>∃p xs i v,x=.ref p∧y=.int i∧gw K H p xs∧gC xs i=some v∧Q v H
noncomputable def Wh:R2:=fun x y H Q=>∃z i c,x=.str z∧y=.int i∧z.length≤sizeLine∧gC z.cps.toList i=some c∧Q (.str ⟨#[c]⟩) H
theorem yD:JF X (Wf X.K):=by
 intro value slice pins s σ H x y v u Q I rx ry h hs
 obtain ⟨p,xs,i,z,rfl,rfl,hq,he,q⟩:=h
 cases rx
 obtain ⟨t,rfl⟩:=ry
 obtain ⟨its,r,pl,hz⟩:=I.list hq
 obtain ⟨j,h1,h2,h3,h4,h5⟩:=yC he
 obtain ⟨w,ew,rw'⟩:=r.get h2
 have hl:=r.length
 have hn:=nA
 have fin:EP X pins σ Q w s:=⟨z,H,I,rw',q⟩
 by_cases h0:0≤i
 ·have hj:i.toNat=j:=by
   rw [seqIndex_of h0 h5] at h1
   exact Option.some.inj h1
  exact item_listR pl.isList h0 (by omega) (by rw [hj]; simpa using ew) fin hs
 ·have hj:(i + (its.toArray.size:Int)).toNat=j:=by
   rw [seqIndex_neg (by omega) h4] at h1
   rw [List.size_toArray,←hl]
   exact Option.some.inj h1
  exact subscriptTail_builtinR (x:=w) pl.isList.typeIs slot_list_getitem.lookup
   (wpAny_getItem_list_neg (Q:=fun r s'=>r=w∧EP X pins σ Q r s') pl.isList (by omega) (by rw [List.size_toArray] <;> omega) (by omega) (by rw [hj]; simpa using ew) ⟨rfl,fin⟩) hs
theorem T4:JF X (Wg X.K):=by
 intro value slice pins s σ H x y v u Q I rx ry h hs
 obtain ⟨p,xs,i,z,rfl,rfl,hq,he,q⟩:=h
 cases rx
 obtain ⟨t,rfl⟩:=ry
 obtain ⟨its,r,pl,hz⟩:=I.tuple hq
 obtain ⟨j,h1,h2,h3,h4,h5⟩:=yC he
 obtain ⟨w,ew,rw'⟩:=r.get h2
 have hl:=r.length
 have hn:=nA
 have fin:EP X pins σ Q w s:=⟨z,H,I,rw',q⟩
 exact subscriptTail_builtinR (x:=w) pl.typeIs slot_tuple_getitem.lookup
  (getItem_tuple (j:=j) (Q:=fun r s'=>r=w∧EP X pins σ Q r s') pl (by omega) (by omega) (by rw [List.size_toArray,←hl]; exact h1) (by simpa using ew) ⟨rfl,fin⟩) hs
theorem T5:JF X Wh:=by
 intro value slice pins s σ H x y v u Q I rx ry h hs
 obtain ⟨z,i,c,rfl,rfl,hz,he,q⟩:=h
 obtain ⟨t,rfl⟩:=rx
 obtain ⟨t',rfl⟩:=ry
 obtain ⟨j,h1,h2,h3,h4,h5⟩:=yC he
 have hl:z.cps.toList.length=z.length:=by simp [Str.length]
 rw [hl] at h1 h4 h5
 have hn:=nA
 exact tail_any (typeIs_str s z t) slot_str_getitem.lookup (getItem_str (c:=c) (by
  have e1:decide (i < -(2 ^ 63:Int))=false:=decide_eq_false (by omega)
  have e2:decide (i ≥ 2 ^ 63)=false:=decide_eq_false (by omega)
  rw [e1,e2,Bool.or_false]) (by rw [h1]; simpa using h2) ⟨.str ⟨#[c]⟩,H,I.tok _,⟨_,rfl⟩,q⟩) hs
noncomputable def rIx (K:PySem.W.Frag):R2:=fun x y H Q=>Wf K x y H Q∨Wg K x y H Q∨Wh x y H Q
theorem T6:JF X (rIx X.K):=yD.or (T4.or T5)
theorem CV (its:List Value) (n j:Nat) (u:Value):Obj.mapSeq (·.setIfInBounds j u) { cls:=.type "list",data:=.seq its.toArray n }={ cls:=.type "list",data:=.seq (its.set j u).toArray n }:=by
 simp [Obj.mapSeq]
theorem Inv.lst {pins:List (Addr×Obj)} {σ:St} {H:Hp} {s:Shared} {p:Addr} {xs:List V} (I:Inv X pins σ H s) (h:H p=some (.lst xs)):
  ∃(its:List Value) (n:Nat),Vals xs its∧s.heap.get? p=some { cls:=.type "list",data:=.seq its.toArray n }∧xs.length≤sizeLine:=by
 obtain ⟨z,its,n,r,e⟩:=I.hok p _ h
 exact ⟨its,n,r,e,z⟩
theorem Inv.T7 {pins:List (Addr×Obj)} {σ:St} {H:Hp} {s:Shared} {p:Addr} {xs ys:List V} {its its':List Value} {n n':Nat} {f:Obj→Obj} (I:Inv X pins σ H s) (h:H p=some (.lst xs))
  (ho:s.heap.get? p=some { cls:=.type "list",data:=.seq its.toArray n }) (hf:f { cls:=.type "list",data:=.seq its.toArray n }={ cls:=.type "list",data:=.seq its'.toArray n' }) (r:Vals ys its') (hz:ys.length≤sizeLine) (t:Nat):
  Inv X pins σ (upd H p (.lst ys)) { s with heap:=s.heap.update p f,toks:=t }:=by
 have e:(s.heap.update p f).get? p=some { cls:=.type "list",data:=.seq its'.toArray n' }:=by
  rw [Heap.get?_update_self f ho (by rw [hf] <;> rfl),hf]
 refine I.write (x:=p) (e:=p) (by rw [h]; trivial) (.inl rfl) (fun b u hb q=>(Heap.get?_update_other _ _ (Ne.symm hb)).trans q) ⟨_,e⟩ ?_
 exact ⟨hz,its',n',r,e⟩
noncomputable def Ro:V→V→V→Hp→(Hp→Prop)→Prop:=fun o i v H Q=>∃p xs k j,o=.ref p∧i=.int k∧H p=some (.lst xs)∧yz xs.length k=some j∧Q (upd H p (.lst (xs.set j v)))
theorem set_list:yp X Ro:=by
 intro pins s σ H o i v ov iv u Q I ro ri rv h
 obtain ⟨p,xs,k,j,rfl,rfl,hp,hj,q⟩:=h
 cases ro
 obtain ⟨t,rfl⟩:=ri
 obtain ⟨its,n,r,ho,hz⟩:=I.lst hp
 obtain ⟨h1,h2,h3,h4⟩:=Fo hj
 have hl:=r.length
 have hn:=nA
 have I':Inv X pins σ (upd H p (.lst (xs.set j v))) { s with heap:=s.heap.update p (Obj.mapSeq (·.setIfInBounds j u)) }:=
  I.T7 hp ho (CV its n j u) (r.set rv j) (by rw [List.length_set]; exact hz) s.toks
 by_cases h0:0≤k
 ·have hk:k.toNat=j:=by
   rw [seqIndex_of h0 h4] at h1
   exact Option.some.inj h1
  exact PySem.W.ki_setAt ho h0 (by omega) (by rw [List.size_toArray,←hl]; exact h4) (by rw [hk]; exact ⟨_,I',q⟩)
 ·have hk:(k + (its.toArray.size:Int)).toNat=j:=by
   rw [seqIndex_neg (by omega) h3] at h1
   rw [List.size_toArray,←hl]
   exact Option.some.inj h1
  exact PySem.W.ki_setBack ho (by omega) (by rw [List.size_toArray,←hl]; exact h3) (by omega) (by rw [hk]; exact ⟨_,I',q⟩)
theorem yE (lo hi:Option Int) (n:Nat):(sliceBounds lo hi none n).1=((HT.dN n 0 lo:Nat):Int)∧(sliceBounds lo hi none n).2.1=((HT.dN n n hi:Nat):Int)∧(sliceBounds lo hi none n).2.2=1:=by
 refine ⟨?_,?_,rfl⟩
 ·cases lo with
  | none=>simp [sliceBounds,HT.dN]
  | some i=>
   simp only [sliceBounds,HT.dN,Option.getD_none,show (1:Int) > 0 by decide,if_true]
   by_cases h:i < 0
   ·simp only [h,if_true] <;> omega
   ·simp only [h,if_false] <;> omega
 ·cases hi with
  | none=>simp [sliceBounds,HT.dN]
  | some i=>
   simp only [sliceBounds,HT.dN,Option.getD_none,show (1:Int) > 0 by decide,if_true]
   by_cases h:i < 0
   ·simp only [h,if_true] <;> omega
   ·simp only [h,if_false] <;> omega
theorem vU (its:List Value) (lo hi:Option Int):slicePick its.toArray lo hi none=((its.drop (HT.dN its.length 0 lo)).take (HT.dN its.length its.length hi - HT.dN its.length 0 lo)).toArray:=by
 obtain ⟨h1,h2,h3⟩:=yE lo hi its.toArray.size
 unfold slicePick
 rw [h1,h2,h3]
 simp only [sliceRange_one,pick_run,List.size_toArray] <;> rfl
noncomputable def YQ (K:PySem.W.Frag):V→Option Int→Option Int→Hp→VK→Prop:=fun x lo hi H Q=>∃a xs,x=.ref a∧cJ K H a xs∧∀p,H p=none→Q (.ref p) (upd H p (.lst (t8 xs lo hi)))
theorem OJ:Oz X (YQ X.K):=by
 intro pins s σ H x v vl vu lo hi sl Q I rx hs pl pu h
 obtain ⟨a,xs,rfl,hx,q⟩:=h
 cases rx
 obtain ⟨its,r,ht,hz⟩:=I.list hx
 have hlen:=r.length
 refine ⟨"list",_,slot_list_getitem.lookup,ht.isList.typeIs,?_⟩
 refine wpAny_getItem_list_slice ht.isList hs pl pu .none (by simp) ?_ (by rw [List.size_toArray] <;> omega)
 rw [vU,←hlen]
 refine ⟨.ref s.heap.objs.size,_,I.laid (t':=s.toks) (o:=.lst (t8 xs lo hi)) (fun b ob q=>Heap.get?_push_of_some _ q) (Nat.le_refl _) ?_,rfl,q _ (I.hok.fresh (Nat.le_refl _))⟩
 exact ⟨Nat.le_trans (rB xs lo hi) hz,_,0,(r.drop (HT.dN xs.length 0 lo)).take (HT.dN xs.length xs.length hi - HT.dN xs.length 0 lo),Heap.get?_push_size _ rfl⟩
noncomputable def jq:V→Bool
 | .non=>true
 | .bl _=>true
 | .int _=>true
 | .str _=>true
 | _=>false
noncomputable def Kc:V→V→Bool
 | .non,.non=>true
 | .bl a,.bl b=>a==b
 | .bl a,.int b=>(if a then 1 else 0)==b
 | .int a,.bl b=>a==(if b then 1 else 0)
 | .int a,.int b=>a==b
 | .str a,.str b=>a==b
 | _,_=>false
theorem CW {A:Around} {s:Shared} {y x:V} {u v:Value} (ry:RelV y u) (rx:RelV x v) (fy:jq y=true) (fx:jq x=true):SeqAt.EqAt A s u v (Kc y x):=by
 cases y with
 | non=>
  cases ry
  cases x with
  | non=>cases rx; exact SeqAt.EqAt.same _
  | bl b=>cases rx; exact SeqAt.EqAt.none_bool b
  | int b=>obtain ⟨t,rfl⟩:=rx; exact SeqAt.EqAt.none_int b t
  | str b=>obtain ⟨t,rfl⟩:=rx; exact SeqAt.EqAt.none_str b t
  | _=>exact absurd (show false=true from fx) Bool.false_ne_true
 | bl a=>
  cases ry
  cases x with
  | non=>cases rx; exact SeqAt.EqAt.bool_none a
  | bl b=>cases rx; exact SeqAt.EqAt.bool_bool a b
  | int b=>obtain ⟨t,rfl⟩:=rx; exact SeqAt.EqAt.bool_int a b t
  | str b=>obtain ⟨t,rfl⟩:=rx; exact SeqAt.EqAt.bool_str a b t
  | _=>exact absurd (show false=true from fx) Bool.false_ne_true
 | int a=>
  obtain ⟨t',rfl⟩:=ry
  cases x with
  | non=>cases rx; exact SeqAt.EqAt.int_none a t'
  | bl b=>cases rx; exact SeqAt.EqAt.int_bool a t' b
  | int b=>obtain ⟨t,rfl⟩:=rx; exact SeqAt.EqAt.int_int a t' b t
  | str b=>obtain ⟨t,rfl⟩:=rx; exact SeqAt.EqAt.int_str a t' b t
  | _=>exact absurd (show false=true from fx) Bool.false_ne_true
 | str a=>
  obtain ⟨t',rfl⟩:=ry
  cases x with
  | non=>cases rx; exact SeqAt.EqAt.str_none a t'
  | bl b=>cases rx; exact SeqAt.EqAt.str_bool a t' b
  | int b=>obtain ⟨t,rfl⟩:=rx; exact SeqAt.EqAt.str_int a t' b t
  | str b=>obtain ⟨t,rfl⟩:=rx; exact SeqAt.EqAt.str_str a t' b t
  | _=>exact absurd (show false=true from fx) Bool.false_ne_true
 | _=>exact absurd (show false=true from fy) Bool.false_ne_true
noncomputable def CZ (x:V) (u:Value):Bool:=match u with
 | .none=>Kc .non x
 | .bool b=>Kc (.bl b) x
 | .int i _=>Kc (.int i) x
 | .str z _=>Kc (.str z) x
 | _=>false
theorem Kd {x y:V} {u:Value} (r:RelV y u) (f:jq y=true):CZ x u=Kc y x:=by
 cases y with
 | non=>cases r; rfl
 | bl b=>cases r; rfl
 | int i=>obtain ⟨t,rfl⟩:=r; rfl
 | str z=>obtain ⟨t,rfl⟩:=r; rfl
 | _=>exact absurd (show false=true from f) Bool.false_ne_true
theorem oK {x:V}:∀{xs:List V} {us:List Value},Vals xs us→xs.all jq=true→us.any (CZ x)=xs.any fun y=>Kc y x
 | _,_,.nil,_=>rfl
 | y::xs,u::us,.cons r t,f=>by
  rw [List.all_cons,Bool.and_eq_true] at f
  rw [List.any_cons,List.any_cons,Kd r f.1,oK t f.2]
theorem kI {A:Around} {s:Shared} {x:V} {v:Value} (rx:RelV x v) (fx:jq x=true):∀{xs:List V} {us:List Value},Vals xs us→xs.all jq=true→∀u∈us,SeqAt.EqAt A s u v (CZ x u)
 | _,_,.nil,_=>fun u hu=>by cases hu
 | y::xs,u::us,.cons r t,f=>fun u' hu=>by
  rw [List.all_cons,Bool.and_eq_true] at f
  rcases List.mem_cons.mp hu with rfl | hu
  ·rw [Kd r f.1]; exact CW r rx f.1 fx
  ·exact kI rx fx t f.2 u' hu
noncomputable def inV (x:V) (xs:List V):Bool:=xs.any fun y=>Kc y x
noncomputable def XM (K:PySem.W.Frag) (neg:Bool):R2:=fun x y H Q=>∃p xs,y=.ref p∧(cJ K H p xs∨gw K H p xs)∧jq x=true∧xs.all jq=true∧Q (.bl (if neg then !inV x xs else inV x xs)) H
theorem HX:gA X (compareOp .In) (XM X.K false):=by
 intro pins s σ H x y v u Q I rx ry h
 obtain ⟨p,xs,rfl,hq,fx,fs,q⟩:=h
 cases ry
 rcases hq with hq | hq
 ·obtain ⟨its,r,pl,hz⟩:=I.list hq
  refine SeqAt.in_listAt (CZ x) pl.isList (fun w hw=>kI rx fx r fs w (by simpa using hw)) ⟨.bl _,H,I,rfl,?_⟩
  rw [show its.toArray.any (CZ x)=its.any (CZ x) by simp,oK r fs]
  exact q
 ·obtain ⟨its,r,pl,hz⟩:=I.tuple hq
  refine SeqAt.in_tupleAt (CZ x) pl (fun w hw=>kI rx fx r fs w (by simpa using hw)) ⟨.bl _,H,I,rfl,?_⟩
  rw [show its.toArray.any (CZ x)=its.any (CZ x) by simp,oK r fs]
  exact q
theorem yF:gA X (compareOp .NotIn) (XM X.K true):=by
 intro pins s σ H x y v u Q I rx ry h
 obtain ⟨p,xs,rfl,hq,fx,fs,q⟩:=h
 cases ry
 rcases hq with hq | hq
 ·obtain ⟨its,r,pl,hz⟩:=I.list hq
  refine SeqAt.notIn_listAt (CZ x) pl.isList (fun w hw=>kI rx fx r fs w (by simpa using hw)) ⟨.bl _,H,I,rfl,?_⟩
  rw [show its.toArray.any (CZ x)=its.any (CZ x) by simp,oK r fs]
  exact q
 ·obtain ⟨its,r,pl,hz⟩:=I.tuple hq
  refine SeqAt.notIn_tupleAt (CZ x) pl (fun w hw=>kI rx fx r fs w (by simpa using hw)) ⟨.bl _,H,I,rfl,?_⟩
  rw [show its.toArray.any (CZ x)=its.any (CZ x) by simp,oK r fs]
  exact q
theorem oM:cI X (.builtin "len") (fun xs H Q=>∃p ys,xs=[.ref p]∧(cJ X.K H p ys∨gw X.K H p ys)∧Q (.int ys.length) H):=by
 intro pins s σ H xs us Q I r h
 obtain ⟨p,ys,rfl,hq,q⟩:=h
 obtain ⟨u,rfl,rx⟩:=vals1 r
 cases rx
 have hn:=nA
 rcases hq with hq | hq
 ·obtain ⟨its,r',pl,hz⟩:=I.list hq
  have hlen:=r'.length
  exact Calls.call_len_list pl.isList (by simp only [List.size_toArray] <;> omega) ⟨.int ys.length,H,I.tok _,⟨s.toks + 1,by rw [List.size_toArray,hlen]⟩,q⟩
 ·obtain ⟨its,r',pl,hz⟩:=I.tuple hq
  have hlen:=r'.length
  exact len_tuple pl (by simp only [List.size_toArray] <;> omega) ⟨.int ys.length,H,I.tok _,⟨s.toks + 1,by rw [List.size_toArray,hlen]⟩,q⟩
theorem yG:cI X (.builtin "len") (fun xs H Q=>∃z,xs=[.str z]∧z.length≤sizeLine∧Q (.int z.length) H):=by
 intro pins s σ H xs us Q I r h
 obtain ⟨z,rfl,hz,q⟩:=h
 obtain ⟨u,rfl,t,rfl⟩:=vals1 r
 have hn:=nA
 exact len_str (by omega) ⟨.int z.length,H,I.tok _,⟨_,rfl⟩,q⟩
theorem cI.or {f:Value} {r r':List V→Hp→VK→Prop} (h:cI X f r) (h':cI X f r'):cI X f (fun xs H Q=>r xs H Q∨r' xs H Q):=by
 intro pins s σ H xs us Q I rs q
 rcases q with q | q
 ·exact h pins s σ H xs us Q I rs q
 ·exact h' pins s σ H xs us Q I rs q
theorem dI:cI X (.type "tuple") (fun xs H Q=>∃p ys,xs=[.ref p]∧((cJ X.K H p ys∧∀l,H l=none→Q (.ref l) (upd H l (.tup ys)))∨(gw X.K H p ys∧Q (.ref p) H))):=by
 intro pins s σ H xs us Q I r h
 obtain ⟨p,ys,rfl,h⟩:=h
 obtain ⟨u,rfl,rx⟩:=vals1 r
 cases rx
 rcases h with ⟨hq,q⟩ | ⟨hq,q⟩
 ·obtain ⟨its,r',pl,hz⟩:=I.list hq
  have hlen:=r'.length
  refine call_tuple_list pl.isList (fun h' kp=>?_) (by simp only [List.size_toArray] <;> omega)
  have I1:Inv X pins σ H { s with heap:=h' }:=I.kept (t':=s.toks) kp
  have I2:Inv X pins σ (upd H h'.objs.size (.tup ys)) { s with heap:=h'.push { cls:=.type "tuple",data:=.seq its.toArray } }:=
   I1.laid (t':=s.toks) (fun b o e=>Heap.get?_push_of_some _ e) (Nat.le_refl _) (show bV X.prog X.w _ _ _ (.tup ys) from ⟨hz,its,r',IsTup.new _ _⟩)
  exact ⟨.ref h'.objs.size,_,I2,rfl,q _ (I1.hok.fresh (Nat.le_refl _))⟩
 ·obtain ⟨its,r',pl,hz⟩:=I.tuple hq
  exact call_tuple_same pl ⟨.ref p,H,I,rfl,q⟩
noncomputable def YS (K:PySem.W.Frag) (T:String) (x:V) (H:Hp):Prop:=match x with
 | .str _=>T="str"
 | .int _=>T="int"
 | .ref p=>(T="list"∧∃xs,cJ K H p xs)∨(T="tuple"∧∃o,K.lookup p=some o∧o.cls=.type "tuple"∧o.dict=none)∨
   (T="dict"∧((∃kvs,H p=some (.dK kvs))∨∃kvs,H p=some (.dT kvs)))∨(T="set"∧∃S n,H p=some (.set S n))
 | _=>False
theorem Ke {pins:List (Addr×Obj)} {σ:St} {H:Hp} {s:Shared} {T:String} {x:V} {v:Value} (I:Inv X pins σ H s) (r:RelV x v) (ty:YS X.K T x H):
  s.TypeIs v T∧∀a,v=.ref a→∃ob,s.heap.get? a=some ob∧ob.dict=none:=by
 cases x with
 | str z=>
  obtain ⟨t,rfl⟩:=r
  cases (show T="str" from ty)
  exact ⟨typeIs_str s z t,fun _ e=>nomatch e⟩
 | int i=>
  obtain ⟨t,rfl⟩:=r
  cases (show T="int" from ty)
  exact ⟨typeIs_int s i t,fun _ e=>nomatch e⟩
 | ref p=>
  cases r
  rcases ty with ⟨rfl,xs,hq⟩ | ⟨rfl,o,hk,hc,hd⟩ | ⟨rfl,hk⟩ | ⟨rfl,S,n,hk⟩
  ·obtain ⟨its,_,pl,_⟩:=I.list hq
   refine ⟨pl.isList.typeIs,fun a e=>?_⟩
   cases e
   obtain ⟨o,n,e,c,hd,_⟩:=pl
   exact ⟨o,e,hd⟩
  ·refine ⟨⟨o,I.p6 p o hk,hc⟩,fun a e=>?_⟩
   cases e
   exact ⟨o,I.p6 _ o hk,hd⟩
  ·have z:∃o,s.heap.get? p=some o∧o.ExactDict:=by
    rcases hk with ⟨kvs,hk⟩ | ⟨kvs,hk⟩
    ·obtain ⟨_,_,_,_,o,_,_,e,ex,_⟩:=I.hok p _ hk
     exact ⟨o,e,ex⟩
    ·obtain ⟨_,_,_,_,o,_,_,e,ex,_⟩:=I.hok p _ hk
     exact ⟨o,e,ex⟩
   obtain ⟨o,e,ex⟩:=z
   refine ⟨⟨o,e,ex.1⟩,fun a e2=>?_⟩
   cases e2
   exact ⟨o,e,ex.2.1⟩
  ·obtain ⟨o,_,_,_,e,ex,_⟩:=I.hok p _ hk
   refine ⟨⟨o,e,ex.1⟩,fun a e2=>?_⟩
   cases e2
   exact ⟨o,e,ex.2.1⟩
 | _=>exact False.elim ty
noncomputable def YT (K:PySem.W.Frag) (T:String) (r:V→List V→Hp→VK→Prop) (to:TE):TE:=fun σ H Q=>to σ H fun x H1=>YS K T x H1∧r x [] H1 Q
noncomputable def tBM (K:PySem.W.Frag) (T:String) (r:V→List V→Hp→VK→Prop) (to:TE) (t:TA):TE:=fun σ H Q=>to σ H fun x H1=>YS K T x H1∧t σ H1 fun xs H2=>r x xs H2 Q
variable {o e:Expr} {es:List Expr} {to:TE} {t:TA} {name:Str} {apos cpos:Pos} {T id:String} {r:V→List V→Hp→VK→Prop}
theorem T8 (pa:PlainAttrs T) (slot:Slot T name id) (hty:typeOf (.builtin id)=pure (.type "method_descriptor")) (hm:T3 X id r) (ho:PE X o to)
  (hbase:attributeBase o name X.env (eval o X.env)=eval o X.env:=by rfl) (hline:(apos.endLine==cpos.line)=true:=by rfl):PE X (.Call (.Attribute o name apos) [] [] cpos) (YT X.K T r to):=by
 intro pins s σ H Q I h
 refine wpAny_Call_method0_late hbase hline (cF (ho pins s σ H _ I h) fun v s1 aR=>?_)
 obtain ⟨x,H1,I1,r1,ty,q1⟩:=aR
 obtain ⟨h1,h2⟩:=Ke I1 r1 ty
 exact ⟨T,id,pa,slot,hty,h1,h2,Calls.callWith_builtin rfl (PySem.evalArgs_none (hm pins s1 σ H1 x [] v [] Q I1 r1 .nil q1))⟩
theorem Rp (pa:PlainAttrs T) (slot:Slot T name id) (hty:typeOf (.builtin id)=pure (.type "method_descriptor")) (hm:T3 X id r) (ho:PE X o to) (ha:PA X (e::es) t)
  (hbase:attributeBase o name X.env (eval o X.env)=eval o X.env:=by rfl)
  (hfew:((backTo cpos (starEach (e::es) X.env)).all (fun x=>!x.1)&&(backToKw cpos (keywordEach [] X.env)).all (fun x=>x.1.isSome)
   &&decide ((e::es).length + ([]:List Keyword).length + (if ([]:List Keyword).isEmpty then 0 else 1) < 30))=true:=by rfl)
  (hline:(apos.endLine==cpos.line)=true:=by rfl) (hs:starEach (e::es) X.env=(false,eval e X.env)::starEach es X.env:=by rfl) (hplain:(backTo cpos (starEach es X.env)).any (·.1)=false:=by rfl):
  PE X (.Call (.Attribute o name apos) (e::es) [] cpos) (tBM X.K T r to t):=by
 intro pins s σ H Q I h
 refine wpAny_Call_method_late hbase hfew hline rfl (cF (ho pins s σ H _ I h) fun v s1 aR=>?_)
 obtain ⟨x,H1,I1,r1,ty,q1⟩:=aR
 obtain ⟨h1,h2⟩:=Ke I1 r1 ty
 refine ⟨T,id,pa,slot,hty,h1,h2,?_⟩
 have hA:=ha cpos pins s1 σ H1 _ I1 q1
 rw [hs] at hA ⊢
 refine Calls.callWith_builtin (by show (false || (backTo cpos (starEach es X.env)).any (·.1))=false; rw [hplain] <;> rfl) (Calls.evalArgs_plain ?_)
 exact cF hA fun us s2 ⟨vs,H2,I2,r2,q2⟩=>hm pins s2 σ H2 x vs v us Q I2 r1 r2 q2
end
end L2
namespace L2
open PySem PySem.Spec PyProof.Rows
noncomputable def Rq (X:Cx) (id:String) (r:V→List V→Hp→VK→Prop):Prop:=
 ∀(pins:List (Addr×Obj)) (s:Shared) (σ:St) (H:Hp) (x:V) (xs:List V) (v:Value) (us:List Value) (Q:VK),Inv X pins σ H s→RelV x v→Vals xs us→r x xs H Q→
  wpAny (model X.prog X.w) X.A (call (.builtin id) (v::us)) (EP X pins σ Q) X.xe s
theorem Vals.one:∀{x:V} {us:List Value},Vals [x] us→∃u,us=[u]∧RelV x u
 | _,_,.cons r .nil=>⟨_,rfl,r⟩
theorem Vals.zero:∀{us:List Value},Vals [] us→us=[]
 | _,.nil=>rfl
theorem Vals.eraseIdx:∀{xs:List V} {us:List Value} (i:Nat),Vals xs us→Vals (xs.eraseIdx i) (us.eraseIdx i)
 | _,_,_,.nil=>.nil
 | _,_,0,.cons _ t=>t
 | _,_,i + 1,.cons r t=>.cons r (Vals.eraseIdx i t)
theorem Vals.reverse {xs:List V} {us:List Value} (h:Vals xs us):Vals xs.reverse us.reverse:=by
 induction h with
 | nil=>exact .nil
 | cons r t ih=>rw [List.reverse_cons,List.reverse_cons]; exact Vals.append ih (.cons r .nil)
section
variable {X:Cx} {pins:List (Addr×Obj)} {σ:St} {H:Hp} {s:Shared} {l b:Addr} {xs ys zs:List V}
theorem Inv.Wi {its its':List Value} {n:Nat} {f:Array Value→Array Value} {t':Nat} (I:Inv X pins σ H s) (hH:H l=some (.lst xs))
  (e:s.heap.get? l=some { cls:=.type "list",data:=.seq its.toArray n }) (hf:f its.toArray=its'.toArray) (hv:Vals ys its') (hz:ys.length≤sizeLine):
  Inv X pins σ (upd H l (.lst ys)) { s with heap:=s.heap.update l (Obj.mapSeq f),toks:=t' }:=by
 have q:=PySem.IsL.update e f
 rw [hf] at q
 refine I.write (x:=l) (e:=l) (by rw [hH]; exact trivial) (.inl rfl) (fun b' u hb hu=>(Heap.get?_update_other s.heap (Obj.mapSeq f) (Ne.symm hb)).trans hu) ⟨_,q⟩ ?_
 exact ⟨hz,its',_,hv,q⟩
theorem Inv.YW {its:List Value} {t':Nat} (I:Inv X pins σ H s) (hv:Vals ys its) (hz:ys.length≤sizeLine):
  Inv X pins σ (upd H s.heap.objs.size (.lst ys)) { s with heap:=s.heap.push { cls:=.type "list",data:=.seq its.toArray },toks:=t' }:=
 I.laid (fun _ _ q=>Heap.get?_push_of_some _ q) (Nat.le_refl _) ⟨hz,its,0,hv,Heap.get?_push_size _ rfl⟩
theorem Inv.fresh (I:Inv X pins σ H s):H s.heap.objs.size=none:=I.hok.fresh (Nat.le_refl _)
theorem Inv.O1 (I:Inv X pins σ H s) (hH:H l=some (.lst xs)):xs.length≤sizeLine∧∃(its:List Value) (n:Nat),Vals xs its∧xs.length=its.length∧s.heap.get? l=some { cls:=.type "list",data:=.seq its.toArray n }:=by
 obtain ⟨z,its,n,r,e⟩:=I.hok l _ hH
 exact ⟨z,its,n,r,r.length,e⟩
end
section
variable {X:Cx}
noncomputable def O2:V→List V→Hp→VK→Prop:=fun x vs H Q=>∃l xs y,x=.ref l∧vs=[y]∧H l=some (.lst xs)∧xs.length < sizeLine∧Q .non (upd H l (.lst (xs++[y])))
theorem wO:Rq X "list.append" O2:=by
 intro pins s σ H x vs v us Q I rx rv h
 obtain ⟨l,xs,y,rfl,rfl,hH,hz,q⟩:=h
 cases rx
 obtain ⟨u,rfl,ru⟩:=rv.one
 obtain ⟨z,its,n,r,hl,e⟩:=I.O1 hH
 refine call_meets F.slot_list_append ⟨_,e,rfl⟩ F.entry_list_append (F.args_list_append_2 _ _) (PySem.list_append l its.toArray n u (by rw [List.size_toArray]; omega)) ⟨e,?_⟩
 refine ⟨.non,_,I.Wi (its':=its++[u]) hH e (by simp) (r.append (.cons ru .nil)) ?_,rfl,q⟩
 rw [List.length_append,List.length_singleton]
 omega
noncomputable def Kf:V→List V→Hp→VK→Prop:=fun x vs H Q=>∃l xs,x=.ref l∧vs=[]∧H l=some (.lst xs)∧Q .non (upd H l (.lst xs.reverse))
theorem Dc:Rq X "list.reverse" Kf:=by
 intro pins s σ H x vs v us Q I rx rv h
 obtain ⟨l,xs,rfl,rfl,hH,q⟩:=h
 cases rx
 have hus:=rv.zero
 subst hus
 obtain ⟨z,its,n,r,hl,e⟩:=I.O1 hH
 refine call_meets F.slot_list_reverse ⟨_,e,rfl⟩ F.entry_list_reverse (F.args_list_reverse_1 _) (AutoSeq1.list_reverse_list_0 l its.toArray n (by rw [List.size_toArray]; omega)) ⟨e,?_⟩
 refine ⟨.non,_,I.Wi (its':=its.reverse) hH e (by simp) r.reverse ?_,rfl,q⟩
 rw [List.length_reverse]
 omega
noncomputable def Wj:R2:=fun x y H Q=>∃l b xs zs,x=.ref l∧y=.ref b∧H l=some (.lst xs)∧H b=some (.lst zs)∧xs.length + zs.length≤sizeLine∧∀p,H p=none→Q (.ref p) (upd H p (.lst (xs++zs)))
theorem T9:gA X (binaryOp .Add) Wj:=by
 intro pins s σ H x y v u Q I rx ry h
 obtain ⟨l,b,xs,zs,rfl,rfl,hH,hB,hz,q⟩:=h
 cases rx
 cases ry
 obtain ⟨z,its,n,r,hl,e⟩:=I.O1 hH
 obtain ⟨z2,its2,n2,r2,hl2,e2⟩:=I.O1 hB
 refine PySem.P.add_list e e2 ?_ (by rw [List.size_toArray,List.size_toArray]; omega)
 have ea:its.toArray++its2.toArray=(its++its2).toArray:=by simp
 rw [ea]
 exact ⟨.ref _,_,I.YW (t':=s.toks) (r.append r2) (by rw [List.length_append]; omega),rfl,q _ I.fresh⟩
end
section
variable {prog:Program} {w:World} {A:Around} {E:Value→Shared→Prop} {s:Shared}
set_option maxRecDepth 100000 in
end
section
variable {X:Cx}
end
end L2
namespace L2
open PySem PySem.Spec PyProof.Rows
section
variable {κ:Type} [DecidableEq κ]
noncomputable def mV (kvs:List (κ×V)) (k:κ):Option V:=(kvs.find? fun kv=>decide (kv.1=k)).map (·.2)
noncomputable def putK (kvs:List (κ×V)) (k:κ) (v:V):List (κ×V):=
 if (kvs.any fun kv=>decide (kv.1=k))=true then kvs.map (fun kv=>if kv.1=k then (kv.1,v) else kv) else kvs++[(k,v)]
noncomputable def Rr (kvs:List (κ×V)) (k:κ):List (κ×V):=kvs.filter fun kv=>decide (kv.1≠k)
theorem oN {p:κ×V} {r:List (κ×V)} {k:κ} (e:p.1=k):mV (p::r) k=some p.2:=by simp [mV,List.find?_cons,e]
theorem oO {p:κ×V} {r:List (κ×V)} {k:κ} (e:¬p.1=k):mV (p::r) k=mV r k:=by simp [mV,List.find?_cons,e]
theorem zY (k:κ):∀kvs:List (κ×V),(kvs.any fun kv=>decide (kv.1=k))=(mV kvs k).isSome
 | []=>rfl
 | p::r=>by
  rw [List.any_cons]
  by_cases e:p.1=k
  ·simp only [oN e,decide_eq_true e,Bool.true_or,Option.isSome_some]
  ·rw [oO e,decide_eq_false e,Bool.false_or]; exact zY k r
theorem kJ (kvs:List (κ×V)) (k:κ) (v:V):(putK kvs k v).length≤kvs.length + 1:=by
 unfold putK
 split
 ·rw [List.length_map]; omega
 ·rw [List.length_append,List.length_cons,List.length_nil]; omega
theorem p7.jr {o:Option V} {u:Option Value} (r:p7 o u):o.isSome=u.isSome:=by
 cases o with
 | none=>cases u with
  | none=>rfl
  | some _=>exact (show False from r).elim
 | some _=>cases u with
  | none=>exact (show False from r).elim
  | some _=>rfl
theorem p7.getD {o:Option V} {u:Option Value} {d:V} {d':Value} (r:p7 o u) (rd:RelV d d'):RelV (o.getD d) (u.getD d'):=by
 cases o with
 | none=>cases u with
  | none=>exact rd
  | some _=>exact (show False from r).elim
 | some _=>cases u with
  | none=>exact (show False from r).elim
  | some _=>exact r
theorem KV.val {kvs:List (κ×V)} {vs:List (κ×Value)} (r:KV kvs vs) (k:κ):p7 (mV kvs k) (valueAt vs k):=by
 unfold KV at r
 induction r with
 | nil=>exact True.intro
 | @cons p q ps qs h t ih=>
  obtain ⟨h1,h2⟩:=h
  by_cases e:p.1=k
  ·have e':q.1=k:=h1.symm.trans e
   have b:valueAt (q::qs) k=some q.2:=by simp [valueAt,List.find?_cons,e']
   rw [oN e,b]; exact h2
  ·have e':¬q.1=k:=fun z=>e (h1.trans z)
   have b:valueAt (q::qs) k=valueAt qs k:=by simp [valueAt,List.find?_cons,e']
   rw [oO e,b]; exact ih
theorem KV.any {kvs:List (κ×V)} {vs:List (κ×Value)} (r:KV kvs vs) (k:κ):(kvs.any fun kv=>decide (kv.1=k))=vs.any fun kv=>decide (kv.1=k):=by
 unfold KV at r
 induction r with
 | nil=>rfl
 | cons h t ih=>rw [List.any_cons,List.any_cons,ih,h.1]
theorem KV.repl {kvs:List (κ×V)} {vs:List (κ×Value)} (r:KV kvs vs) (k:κ) {y:V} {u:Value} (ry:RelV y u):
  KV (kvs.map fun kv=>if kv.1=k then (kv.1,y) else kv) (vs.map fun kv=>if kv.1=k then (kv.1,u) else kv):=by
 unfold KV at r ⊢
 induction r with
 | nil=>exact .nil
 | @cons p q ps qs h t ih=>
  rw [List.map_cons,List.map_cons]
  refine .cons ?_ ih
  obtain ⟨h1,h2⟩:=h
  by_cases e:p.1=k
  ·rw [if_pos e,if_pos (h1.symm.trans e)]; exact ⟨h1,ry⟩
  ·rw [if_neg e,if_neg (fun z=>e (h1.trans z))]; exact ⟨h1,h2⟩
theorem KV.put {kvs:List (κ×V)} {vs:List (κ×Value)} (r:KV kvs vs) (k:κ) {y:V} {u:Value} (ry:RelV y u):KV (putK kvs k y) (stored vs k u):=by
 unfold putK stored
 rw [r.any k]
 by_cases e:(vs.any fun kv=>decide (kv.1=k))=true
 ·rw [if_pos e,if_pos e]; exact r.repl k ry
 ·rw [if_neg e,if_neg e]; exact Paired.snoc r ⟨rfl,ry⟩
theorem KV.drop {kvs:List (κ×V)} {vs:List (κ×Value)} (r:KV kvs vs) (k:κ):KV (Rr kvs k) (without vs k):=by
 unfold KV at r ⊢
 unfold Rr without
 induction r with
 | nil=>exact .nil
 | @cons p q ps qs h t ih=>
  obtain ⟨h1,h2⟩:=h
  rw [List.filter_cons,List.filter_cons]
  by_cases e:p.1=k
  ·have a:¬decide (p.1≠k)=true:=by simp [e]
   have b:¬decide (q.1≠k)=true:=by simp [h1.symm.trans e]
   rw [if_neg a,if_neg b]; exact ih
  ·have e':¬q.1=k:=fun z=>e (h1.trans z)
   have a:decide (p.1≠k)=true:=by simp [e]
   have b:decide (q.1≠k)=true:=by simp [e']
   rw [if_pos a,if_pos b]; exact .cons ⟨h1,h2⟩ ih
theorem KV.length {kvs:List (κ×V)} {vs:List (κ×Value)} (r:KV kvs vs):kvs.length=vs.length:=Paired.length r
end
theorem uc {P:Program} {w:World} {k:Key} {u:Value} (r:RelV (kV k) u):(cL P w).is k u=true:=by
 cases k with
 | inl i=>obtain ⟨t,e⟩:=(show ∃t,u=Value.int i t from r); subst e; exact zT P w i t
 | inr x=>obtain ⟨t,e⟩:=(show ∃t,u=Value.str x t from r); subst e; exact zU P w x t
theorem wQ {P:Program} {w:World}:∀{ks:List Key} {us:List Value},Vals (ks.map kV) us→ItemsAre (cL P w) ks us
 | [],_,r=>by rw [List.map_nil] at r; cases r; exact .nil
 | k::ks,_,r=>by
  rw [List.map_cons] at r
  cases r with
  | cons h t=>exact .cons (uc h) (wQ t)
noncomputable abbrev KT (H:Hp):List (List Key×V)→List (List Key×Addr×Value)→Prop:=Paired fun p q=>p.1=q.1∧H q.2.1=some (.tup (p.1.map kV))∧RelV p.2 q.2.2
theorem KT.val {H:Hp} {kvs:List (List Key×V)} {xs:List (List Key×Addr×Value)} (r:KT H kvs xs) (k:List Key):p7 (mV kvs k) ((atKey xs k).map (·.2)):=by
 induction r with
 | nil=>exact True.intro
 | @cons p q ps qs h t ih=>
  obtain ⟨h1,_,h2⟩:=h
  by_cases e:p.1=k
  ·have e':q.1=k:=h1.symm.trans e
   have b:atKey (q::qs) k=some q.2:=by simp [atKey,List.find?_cons,e']
   rw [oN e,b]; exact h2
  ·have e':¬q.1=k:=fun z=>e (h1.trans z)
   have b:atKey (q::qs) k=atKey qs k:=by simp [atKey,List.find?_cons,e']
   rw [oO e,b]; exact ih
theorem KT.repl {H:Hp} {kvs:List (List Key×V)} {xs:List (List Key×Addr×Value)} (r:KT H kvs xs) (k:List Key) {y:V} {u:Value} (ry:RelV y u):
  KT H (kvs.map fun kv=>if kv.1=k then (kv.1,y) else kv) (xs.map (putAt k u)):=by
 induction r with
 | nil=>exact .nil
 | @cons p q ps qs h t ih=>
  rw [List.map_cons,List.map_cons]
  refine .cons ?_ ih
  obtain ⟨h1,h2,h3⟩:=h
  unfold putAt
  by_cases e:p.1=k
  ·rw [if_pos e,if_pos (h1.symm.trans e)]; exact ⟨h1,h2,ry⟩
  ·rw [if_neg e,if_neg (fun z=>e (h1.trans z))]; exact ⟨h1,h2,h3⟩
theorem KT.put {H:Hp} {kvs:List (List Key×V)} {xs:List (List Key×Addr×Value)} (r:KT H kvs xs) (k:List Key) {b:Addr} {y:V} {u:Value} (hb:H b=some (.tup (k.map kV))) (ry:RelV y u):
  KT H (putK kvs k y) (storedH xs k b u):=by
 have e:(kvs.any fun kv=>decide (kv.1=k))=(atKey xs k).isSome:=by
  rw [zY,(r.val k).jr,Option.isSome_map]
 unfold putK storedH
 rw [e]
 by_cases q:(atKey xs k).isSome=true
 ·rw [if_pos q,if_pos q]; exact r.repl k ry
 ·rw [if_neg q,if_neg q]; exact Paired.snoc r ⟨rfl,hb,ry⟩
theorem KT.keeps {H H':Hp} {kvs:List (List Key×V)} {xs:List (List Key×Addr×Value)} (r:KT H kvs xs) (ht:∀b ys,H b=some (.tup ys)→H' b=some (.tup ys)):KT H' kvs xs:=
 Paired.SN r fun _ _ z=>⟨z.1,ht _ _ z.2.1,z.2.2⟩
section
variable {P:Program} {w:World} {H:Hp} {h:Heap} {a:Addr}
theorem Rt {u:HO} (ok:oE P w H h) (e:Rd H a u):bV P w H h a u:=e.ok ok
theorem rC {kvs:List (Key×V)} (ok:oE P w H h) (e:Rd H a (.dK kvs)):kvs.length≤sizeLine∧(a==sysModules)=false∧∃vs,KV kvs vs∧h.DictOf (cL P w) a vs:=
 show bV P w H h a (.dK kvs) from Rt ok e
theorem Ru {kvs:List (Key×V)} (ok:oE P w H h) (e:H a=some (.dK kvs)):kvs.length≤sizeLine∧(a==sysModules)=false∧∃vs,KV kvs vs∧h.DictOf (cL P w) a vs:=rC ok (.inl e)
theorem ql {ks:List Key} (ok:oE P w H h) (e:H a=some (.tup (ks.map kV))):(tupleKind (cL P w)).is h ks a:=by
 obtain ⟨_,its,r,o,h1,h2,n,h3⟩:=(show bV P w H h a (.tup (ks.map kV)) from ok a _ e)
 exact ⟨o,its.toArray,n,h1,h2,h3,by simpa using wQ r⟩
theorem ud {kvs:List (List Key×V)} (ok:oE P w H h) (e:Rd H a (.dT kvs)):kvs.length≤sizeLine∧(a==sysModules)=false∧
  ∃xs,KT H kvs xs∧h.DictOfH (tupleKind (cL P w)) a xs:=by
 obtain ⟨z,y,xs,r,o,es,ep,h1,h2,h3,h4,h5⟩:=(show bV P w H h a (.dT kvs) from Rt ok e)
 refine ⟨z,y,xs,r,o,es,ep,h1,h2,h3,h4,fun x hx=>?_,h5⟩
 have all:∀{l:List (List Key×V)} {m:List (List Key×Addr×Value)},KT H l m→∀x∈m,(tupleKind (cL P w)).is h x.1 x.2.1:=by
  intro l m q
  induction q with
  | nil=>intro x hx; exact nomatch hx
  | @cons p q ps qs hq t ih=>
   intro x hx
   rcases List.mem_cons.mp hx with e | hx
   ·subst e
    exact ql ok (by rw [←hq.1]; exact hq.2.1)
   ·exact ih x hx
 exact all r x hx
theorem Rv {kvs:List (List Key×V)} (ok:oE P w H h) (e:H a=some (.dT kvs)):kvs.length≤sizeLine∧(a==sysModules)=false∧
  ∃xs,KT H kvs xs∧h.DictOfH (tupleKind (cL P w)) a xs:=ud ok (.inl e)
end
noncomputable def kO (H:Hp) (a:Addr) (y:V) (r:Option V):Prop:=
 (∃kvs k,Rd H a (.dK kvs)∧y=kV k∧r=mV kvs k)∨∃kvs k b,Rd H a (.dT kvs)∧y=.ref b∧H b=some (.tup (k.map kV))∧r=mV kvs k
noncomputable def vV (H:Hp) (a:Addr) (y v:V) (H':Hp):Prop:=
 (∃kvs k,H a=some (.dK kvs)∧y=kV k∧kvs.length < sizeLine∧H'=upd H a (.dK (putK kvs k v)))∨
 ∃kvs k b,H a=some (.dT kvs)∧y=.ref b∧H b=some (.tup (k.map kV))∧kvs.length < sizeLine∧H'=upd H a (.dT (putK kvs k v))
theorem kO.k {H:Hp} {a:Addr} {kvs:List (Key×V)} {k:Key} (e:H a=some (.dK kvs)):kO H a (kV k) (mV kvs k):=.inl ⟨kvs,k,.inl e,rfl,rfl⟩
theorem kO.t {H:Hp} {a b:Addr} {kvs:List (List Key×V)} {k:List Key} (e:H a=some (.dT kvs)) (eb:H b=some (.tup (k.map kV))):kO H a (.ref b) (mV kvs k):=.inr ⟨kvs,k,b,.inl e,rfl,eb,rfl⟩
theorem vV.k {H:Hp} {a:Addr} {kvs:List (Key×V)} {k:Key} {v:V} (e:H a=some (.dK kvs)) (hl:kvs.length < sizeLine):vV H a (kV k) v (upd H a (.dK (putK kvs k v))):=.inl ⟨kvs,k,e,rfl,hl,rfl⟩
theorem vV.t {H:Hp} {a b:Addr} {kvs:List (List Key×V)} {k:List Key} {v:V} (e:H a=some (.dT kvs)) (eb:H b=some (.tup (k.map kV))) (hl:kvs.length < sizeLine):
  vV H a (.ref b) v (upd H a (.dT (putK kvs k v))):=.inr ⟨kvs,k,b,e,rfl,eb,hl,rfl⟩
section
variable {X:Cx} {pins:List (Addr×Obj)} {σ:St} {H:Hp} {s:Shared} {a:Addr} {y v:V} {u r:Value} {o:Option V} {A:Around} {E:Value→Shared→Prop}
theorem Inv.big (I:Inv X pins σ H s):sysModules < s.heap.objs.size:=by
 have h:mainGlobals < s.heap.objs.size:=(I.mod.glob.keeps I.bk).lt
 exact Nat.lt_trans (by decide) h
theorem HY {Q:Value→Shared→Prop} (hu:A.units + 1 < cLine) (I:Inv X pins σ H s) (g:kO H a y (some v)) (ry:RelV y u) (h:∀w' s',Inv X pins σ H s'→RelV v w'→Q w' s'):
  wpAny (model X.prog X.w) A (getItem (.ref a) u) Q E s:=by
 rcases g with ⟨kvs,k,e,ey,l⟩ | ⟨kvs,k,b,e,ey,eb,l⟩
 ·subst ey
  obtain ⟨z,hd,vs,rel,dd⟩:=rC I.hok e
  obtain ⟨w',hw,rw'⟩:=p7.some_of (v:=v) (o:=valueAt vs k) (by rw [l]; exact rel.val k)
  exact wpAny_getItem_of (uc ry) dd.mapOf hw (h w' _ (I.tok _) rw')
 ·subst ey
  cases (show u=Value.ref b from ry)
  obtain ⟨z,hd,xs,rel,dd⟩:=ud I.hok e
  obtain ⟨w',hw,rw'⟩:=p7.some_of (v:=v) (o:=(atKey xs k).map (·.2)) (by rw [l]; exact rel.val k)
  obtain ⟨p,hp,hp2⟩:=Option.map_eq_some_iff.mp hw
  refine wpAny_getItem_heap (tupleKind_room_in1 hu) (ql I.hok eb) dd hp ?_
  rw [hp2]
  exact h w' _ (I.tok _) rw'
theorem Wk {Q:Value→Shared→Prop} (hu:A.units + 1 < cLine) (I:Inv X pins σ H s) (g:kO H a y o) (ry:RelV y u) (h:∀s',Inv X pins σ H s'→Q (.bool o.isSome) s'):
  wpAny (model X.prog X.w) A (compareOp .In u (.ref a)) Q E s:=by
 rcases g with ⟨kvs,k,e,ey,l⟩ | ⟨kvs,k,b,e,ey,eb,l⟩
 ·subst ey
  obtain ⟨z,hd,vs,rel,dd⟩:=rC I.hok e
  refine wpAny_in_of (uc ry) hd dd.mapOf ?_
  rw [←(rel.val k).jr,←l]
  exact h _ (I.tok _)
 ·subst ey
  cases (show u=Value.ref b from ry)
  obtain ⟨z,hd,xs,rel,dd⟩:=ud I.hok e
  refine wpAny_in_heap (tupleKind_room_in1 hu) (ql I.hok eb) hd dd ?_
  have q:=(rel.val k).jr
  rw [Option.isSome_map] at q
  rw [←q,←l]
  exact h _ (I.tok _)
theorem Fp {Q:Value→Shared→Prop} (hu:A.units + 1 < cLine) (I:Inv X pins σ H s) (g:kO H a y o) (ry:RelV y u) (h:∀s',Inv X pins σ H s'→Q (.bool (!o.isSome)) s'):
  wpAny (model X.prog X.w) A (compareOp .NotIn u (.ref a)) Q E s:=by
 rcases g with ⟨kvs,k,e,ey,l⟩ | ⟨kvs,k,b,e,ey,eb,l⟩
 ·subst ey
  obtain ⟨z,hd,vs,rel,dd⟩:=rC I.hok e
  refine wpAny_notIn_of (uc ry) hd dd.mapOf ?_
  rw [←(rel.val k).jr,←l]
  exact h _ (I.tok _)
 ·subst ey
  cases (show u=Value.ref b from ry)
  obtain ⟨z,hd,xs,rel,dd⟩:=ud I.hok e
  refine wpAny_notIn_heap (tupleKind_room_in1 hu) (ql I.hok eb) hd dd ?_
  have q:=(rel.val k).jr
  rw [Option.isSome_map] at q
  rw [←q,←l]
  exact h _ (I.tok _)
theorem mD {h':Heap} {t':Nat} {ob:HO} (I:Inv X pins σ H s) (mu:Vy (H a)) (hs:Heap.SameBut a s.heap h') (he:∃q,h'.get? a=some q) (new:bV X.prog X.w (upd H a ob) h' a ob):
  Inv X pins σ (upd H a ob) { s with heap:=h',toks:=t' }:=
 I.write (x:=a) (e:=a) mu (.inl rfl) (fun b q hb z=>(hs.2 b hb).trans z) he new
theorem Dd {P:Program} {w:World} {H':Hp} {h':Heap} {kvs:List (Key×V)} {vs:List (Key×Value)} (z:kvs.length≤sizeLine) (hd:(a==sysModules)=false) (rel:KV kvs vs) (dd:h'.DictOf (cL P w) a vs):
  bV P w H' h' a (.dK kvs):=⟨z,hd,vs,rel,dd⟩
theorem wR {H':Hp} {Q:Unit→Shared→Prop} (hu:A.units + 1 < cLine) (I:Inv X pins σ H s) (g:vV H a y v H') (ry:RelV y u) (rv:RelV v r) (h:∀s',Inv X pins σ H' s'→Q () s'):
  wpAny (model X.prog X.w) A (setItem (.ref a) u r) Q E s:=by
 rcases g with ⟨kvs,k,e,ey,l,eH⟩ | ⟨kvs,k,b,e,ey,eb,l,eH⟩
 ·subst ey eH
  obtain ⟨z,hd,vs,rel,dd⟩:=Ru I.hok e
  have hz:vs.length≤sizeLine:=by rw [←rel.length]; exact z
  have hl:(putK kvs k v).length≤sizeLine:=by have:=kJ kvs k v; omega
  refine wpAny_setItem_pairs (hsz:=hz) (uc ry) dd fun h' Ua hs=>h _ ?_
  have he:∃q,h'.get? a=some q:=let ⟨q,_,_,hq,_⟩:=Ua; ⟨q,hq⟩
  exact mD I (by rw [e]; exact True.intro) hs he (Dd hl hd (rel.put k rv) Ua)
 ·subst ey eH
  cases (show u=Value.ref b from ry)
  obtain ⟨z,hd,xs,rel,dd⟩:=Rv I.hok e
  have hz:xs.length≤sizeLine:=by rw [←Paired.length rel]; exact z
  have hl:(putK kvs k v).length≤sizeLine:=by have:=kJ kvs k v; omega
  refine wpAny_setItem_heap (hsz:=hz) (tupleKind_room_in1 hu) (ql I.hok eb) dd fun h' Ua hs=>h _ ?_
  obtain ⟨q,es,ep,hq,h2,h3,h4,_,h5⟩:=Ua
  refine mD I (by rw [e]; exact True.intro) hs ⟨q,hq⟩ ⟨hl,hd,_,(rel.put k eb rv).keeps fun c ys ec=>?_,q,es,ep,hq,h2,h3,h4,h5⟩
  rw [aO (JL ec e (fun z=>nomatch z))]
  exact ec
end
section
variable {X:Cx} {pins:List (Addr×Obj)} {σ:St} {H:Hp} {s:Shared} {a:Addr} {kvs:List (Key×V)} {k:Key} {u:Value} {A:Around} {E:Value→Shared→Prop}
theorem Wl {Q:Value→Shared→Prop} (I:Inv X pins σ H s) (e:Rd H a (.dK kvs)) (h:∀t s',Inv X pins σ H s'→Q (.int kvs.length t) s'):wpAny (model X.prog X.w) A (call (.builtin "len") [.ref a]) Q E s:=by
 obtain ⟨z,hd,vs,rel,dd⟩:=rC I.hok e
 refine call_len_dict hd dd (by rw [←rel.length]; rw [sizeLine_eq] at z; omega) ?_
 rw [←rel.length]
 exact h _ _ (I.tok _)
end
theorem zZ {X:Cx} {pins:List (Addr×Obj)} {σ:St} {H:Hp} {s:Shared} {a:Addr} {y:V} {o:Option V} (I:Inv X pins σ H s) (g:kO H a y o):s.TypeIs (.ref a) "dict":=by
 rcases g with ⟨kvs,k,e,_,_⟩ | ⟨kvs,k,b,e,_,_,_⟩
 ·obtain ⟨_,_,vs,_,dd⟩:=rC I.hok e
  exact dd.typeIs
 ·obtain ⟨_,_,xs,_,dd⟩:=ud I.hok e
  exact dd.typeIs
section
variable {X:Cx} {o i e value:Expr} {pos pos' tpos:Pos} {td ty tv:TE}
end
theorem z6 {P:Program} {w:World} {H:Hp} (h:Heap) (hb:sysModules < h.objs.size):bV P w H (h.push { cls:=.type "dict",data:=.dict #[] }) h.objs.size (.dK []):=
 ⟨Nat.zero_le _,beq_eq_false_iff_ne.mpr (Ne.symm (Nat.ne_of_lt hb)),[],.nil,Heap.DictOf.new h⟩
noncomputable def Ub:TE:=fun _ H Q=>∀p,H p=none→Q (.ref p) (upd H p (.dK []))
section
variable {X:Cx} {pos:Pos}
theorem Kg:PE X (.Dict [] [] pos) Ub:=fun pins s σ H Q I h=>
 wpAny_Dict_empty ⟨.ref s.heap.objs.size,_,I.laid (a:=s.heap.objs.size) (o:=.dK []) (t':=s.toks) (fun _ _ q=>Heap.get?_push_of_some _ q) (Nat.le_refl _) (z6 s.heap I.big),rfl,h _ (I.hok.fresh (Nat.le_refl _))⟩
end
structure M1 (X:Cx) (o:Expr) (m:Str) (apos:Pos) (e:Expr) (cpos:Pos):Prop where
 base:attributeBase o m X.env (eval o X.env)=eval o X.env
 few:((backTo cpos (starEach [e] X.env)).all (fun x=>!x.1)&&(backToKw cpos (keywordEach [] X.env)).all (fun x=>x.1.isSome)
  &&decide (([e]:List Expr).length + ([]:List Keyword).length + (if ([]:List Keyword).isEmpty then 0 else 1) < 30))=true
 line:(apos.endLine==cpos.line)=true
 trees:backTo cpos (starEach [e] X.env)=[(false,eval e X.env)]
structure M2 (X:Cx) (o:Expr) (m:Str) (apos:Pos) (e f:Expr) (cpos:Pos):Prop where
 base:attributeBase o m X.env (eval o X.env)=eval o X.env
 few:((backTo cpos (starEach [e,f] X.env)).all (fun x=>!x.1)&&(backToKw cpos (keywordEach [] X.env)).all (fun x=>x.1.isSome)
  &&decide (([e,f]:List Expr).length + ([]:List Keyword).length + (if ([]:List Keyword).isEmpty then 0 else 1) < 30))=true
 line:(apos.endLine==cpos.line)=true
 trees:backTo cpos (starEach [e,f] X.env)=[(false,eval e X.env),(false,eval f X.env)]
noncomputable def IsD (H:Hp) (a:Addr):Prop:=(∃kvs,Rd H a (.dK kvs))∨∃kvs,Rd H a (.dT kvs)
theorem Uc {X:Cx} {pins:List (Addr×Obj)} {σ:St} {H:Hp} {s:Shared} {a:Addr} (I:Inv X pins σ H s) (d:IsD H a):
  s.TypeIs (.ref a) "dict"∧(∀b,Value.ref a=.ref b→∃ob,s.heap.get? b=some ob∧ob.dict=none)∧(a==sysModules)=false:=by
 rcases d with ⟨kvs,e⟩ | ⟨kvs,e⟩
 ·obtain ⟨_,hd,vs,_,dd⟩:=rC I.hok e
  refine ⟨dd.typeIs,fun b q=>?_,hd⟩
  cases q
  obtain ⟨ob,_,_,h1,h2,_⟩:=dd
  exact ⟨ob,h1,h2.2.1⟩
 ·obtain ⟨_,hd,xs,_,dd⟩:=ud I.hok e
  refine ⟨dd.typeIs,fun b q=>?_,hd⟩
  cases q
  obtain ⟨ob,_,_,h1,h2,_⟩:=dd
  exact ⟨ob,h1,h2.2.1⟩
section
variable {X:Cx} {pins:List (Addr×Obj)} {σ:St} {H:Hp} {s:Shared} {a:Addr} {y d:V} {u r:Value} {o:Option V} {A:Around} {E:Value→Shared→Prop}
theorem Kh {Q:Value→Shared→Prop} (hu:A.units + 1 < cLine) (I:Inv X pins σ H s) (g:kO H a y o) (ry:RelV y u) (rd:RelV d r) (h:∀w' s',Inv X pins σ H s'→RelV (o.getD d) w'→Q w' s'):
  wpAny (model X.prog X.w) A (call (.builtin "dict.get") [.ref a,u,r]) Q E s:=by
 rcases g with ⟨kvs,k,e,ey,l⟩ | ⟨kvs,k,b,e,ey,eb,l⟩
 ·subst ey
  obtain ⟨z,hd,vs,rel,dd⟩:=rC I.hok e
  refine call_meetsIn PySem.F.slot_dict_get dd.typeIs PySem.F.entry_dict_get (PySem.F.args_dict_get_3 _ _ _) (meets_dict_get_default (cL X.prog X.w) a (uc ry) hd r) ⟨_,dd.mapOf,h _ _ (I.tok _) ?_⟩
  rw [l]
  exact (rel.val k).getD rd
 ·subst ey
  cases (show u=Value.ref b from ry)
  obtain ⟨z,hd,xs,rel,dd⟩:=ud I.hok e
  refine call_meetsIn PySem.F.slot_dict_get dd.typeIs PySem.F.entry_dict_get (PySem.F.args_dict_get_3 _ _ _) (meetsH_dict_get_default (tupleKind (cL X.prog X.w)) a b hd r) ⟨tupleKind_room_in1 hu,k,xs,ql I.hok eb,dd,h _ _ (I.tok _) ?_⟩
  rw [l]
  exact (rel.val k).getD rd
end
section
variable {X:Cx} {o e f:Expr} {apos cpos:Pos} {td ty tx:TE}
end
section
variable {X:Cx} {pins:List (Addr×Obj)} {σ:St} {H:Hp} {s:Shared} {a:Addr} {kvs:List (Key×V)} {A:Around} {E:Value→Shared→Prop}
end
section
variable {X:Cx} {pins:List (Addr×Obj)} {σ:St} {H:Hp} {s:Shared} {a:Addr} {y:V} {u:Value} {A:Around} {E:Value→Shared→Prop}
end
end L2
namespace Att
open PySem PySem.W PySem.Calls PyProof.Rows
theorem sO {P:Params} {h:Heap}:∀(ns:List Int) (vs:List Value),WellAll P h vs (ns.map WData.int)→IntsAre vs ns:=by
 intro ns
 induction ns with
 | nil=>
  intro vs w
  rw [List.map_nil] at w
  cases w
  exact .nil
 | cons n ns ih=>
  intro vs w
  rw [List.map_cons] at w
  cases w with
  | cons a b=>
   cases a
   exact .cons _ _ (ih _ b)
theorem H9 {l:OpenLaw} {n:Nat} (hn:l.most=some n) {P:Params} {h:Heap} {args:List WData} {vals:List Value}
  (hpre:l.row.toRowW.claim.pre args=true) (hwl:WellAll P h vals args):
  ∃a vs ns,vals=[Value.ref a]∧args=[WData.list (ns.map WData.int)]∧h.get? a=some { cls:=.type "list",data:=.seq vs.toArray }∧IntsAre vs ns∧ns.length≤n:=by
 have hsh:WShape.hasAll [] args [.list .int]=true:=(pre_splitW hpre).1
 have hc:l.pre.holds [] { args:=args }=true:=(pre_splitW hpre).2
 obtain ⟨d,r,rfl,h1,h2⟩:=hasAllW_cons hsh
 obtain rfl:=hasAllW_nil h2
 obtain ⟨xs,rfl,h3⟩:=hasW_list h1
 obtain ⟨ns,rfl⟩:=items_int h3
 have hlen:ns.length≤n:=by
  unfold OpenLaw.pre at hc
  have h4:(WTm.not (.lt (.lit (.int (n:Int))) (.len (.arg 0)))).holds [] { args:=[.list (ns.map .int)] }=true:=by
   have h4:=(holds_andW hc).1
   rw [hn] at h4
   exact h4
  have h5:=condW_of h4 (w_not (w_lt w_lit (w_len_list (w_arg rfl))))
  rw [List.length_map] at h5
  refine Nat.le_of_not_lt fun q=>?_
  have q':(n:Int) < ((ns.length:Nat):Int):=by omega
  first
   | (rw [decide_eq_true q'] at h5; exact absurd h5 (by decide))
   | (simp at h5; omega)
 cases hwl with
 | cons w1 w2=>
  cases w2
  cases w1 with
  | list ho hall=>exact ⟨_,_,ns,rfl,rfl,ho,sO ns _ hall,hlen⟩
theorem Ia (l:OpenLaw) (args:List WData):l.row.toRowW.claim.post args (.bool true) args=true:=
 postW_of (r:=l.row.toRowW) (X:=(true==true))
  (show WShape.has [] (.bool true) .bool=true by first | rfl | decide | simp [WShape.has,WShape.arms,WShape.armsAll])
  (show (WTm.eq .res (.lit (.bool true))).value [] { args:=args,res:=some (.bool true),after:=args }=some (.bool (true==true)) from w_eq_bool (w_res rfl) w_lit) rfl
theorem z7 {l:OpenLaw} {n:Nat} {q:Program} {loose:List Str} {XP:(Str→Option Value)→Heap→Prop} {YP:World→Heap→Prop} {d:DefRec}
  (hn:l.most=some n) (hdf:d.params.defaults=[])
  (call:∀(w:World) (s₀ s₁:Shared) (mg mb:Str→Option Value) (fa:Addr) (o:Obj) (pm cd doc:Value) (a:Addr) (vs:List Value) (ns:List Int),
   Ground q loose [] XP w s₀ mg mb s₁.heap→YP w s₁.heap→
   s₁.heap.get? fa=some o→o.data=.func (docDef d.name d.params d.body d.scope pm cd doc)→s₁.heap.CodeRec cd d.name→mg d.name=some (.ref fa)→
   s₁.heap.get? a=some { cls:=.type "list",data:=.seq vs.toArray }→IntsAre vs ns→ns.length≤n→s₁.gens=#[]→
   codeAny (model l.prog w) callerA (.call (.ref fa) ⟨[.ref a],[]⟩) (fun r s'=>r=.ok (.ret (.bool true))∧OldK s₁.heap s'.heap∧s'.os=s₁.os∧AllBare s'.gens) s₁):
  WalkO q loose XP YP l.row.toRowW d [] (fun f vs=>PySem.call f vs):=by
 intro w s₀ s₁ mg mb G Y fa o pm cd doc dV kV ho hd hcd hD hmg hg args vals as hpre hlay hrd hwl hlo
 obtain rfl:dV=.none:=Dflts.none hD hdf
 obtain rfl:kV=.none:=Dflts.noKw hD
 obtain ⟨a,vs,ns,rfl,rfl,hobj,hints,hlen⟩:=H9 hn hpre hwl
 refine enter_call (codeAny_mono (call w s₀ s₁ mg mb fa o pm cd doc a vs ns G Y ho (fd_plain hd) hcd hmg hobj hints hlen hg) fun r s' hq=>?_)
 obtain ⟨rfl,h2,h3,h4⟩:=hq
 exact ⟨.inl ⟨.bool true,.bool true,[],rfl,fun _=>rfl,.bool true,Ia l _,fun _=>⟨List.Pairwise.nil,fun _ hm=>(nomatch hm)⟩⟩,h2,h3,h4⟩
section
variable {prog:Program} {w:World} {A:Around} {E:Value→Shared→Prop} {s:Shared} {K:Frag}
noncomputable def ledger (h:Heap) (L d:Addr):List (Addr×Obj):=(List.range h.objs.size).filterMap fun a=>if a=L∨a=d then none else (h.get? a).map fun o=>(a,o)
end
end Att
namespace L2
open PySem PySem.Spec PyProof.Rows
theorem mF:∀{vs:List Value} {ns:List Int},IntsAre vs ns→Vals (ns.map V.int) vs
 | _,_,.nil=>.nil
 | _,_,.cons n t h=>.cons ⟨t,rfl⟩ (mF h)
noncomputable def Only (H:Hp):Prop:=∀b,H b=none∨∃o xs,H b=some (.zP o (.lst xs))
theorem Kl {P:Program} {w:World} {K:PySem.W.Frag} {mg mb:Str→Option Value} {CX:HR} {k:Nat} {fa a:Addr} {fd:FuncData} {x:Str} {sp:Sp} {s₁:Shared} {vs:List Value} {ns:List Int}
  (KX:K.In s₁.heap) (hns:s₁.heap.Ns mainGlobals mg) (hb:s₁.heap.Ns builtinsNs mb) (hbb:∀x:Str,x≠"__name__"→mb x=bootBuiltins x) (hlim:s₁.heap.NoLimit) (hg:s₁.gens=#[])
  (ha:s₁.heap.get? a=some { cls:=.type "list",data:=.seq vs.toArray }) (hi:IntsAre vs ns) (hl:ns.length≤sizeLine) (hr:fB k callerA)
  (F:∀base:Heap,K.In base→base.Ns mainGlobals mg→dD P w K mg base CX k fa fd [x] sp) (hbind:∀(s:Shared) (u:Value),BindsTo s fd ⟨[u],[]⟩ [(x,u)])
  (hsp:∀H:Hp,Only H→cJ K H a (ns.map V.int)→sp [.ref a] H (fun v _=>v=.bl true) fun _ _ _=>False)
  (YX:∀H e s',CX [] H s₁ (fun _ _ _=>False) e s'→False):
  codeAny (model P w) callerA (.call (.ref fa) ⟨[.ref a],[]⟩) (fun r s'=>r=.ok (.ret (.bool true))∧OldK s₁.heap s'.heap∧s'.os=s₁.os∧AllBare s'.gens) s₁:=by
 have rv:=mF hi
 have lenV:=hi.length
 have core:∀H:Hp,Only H→cJ K H a (ns.map V.int)→oE P w H s₁.heap→(∀b,H b≠none→b=a)→(H a≠none→K.lookup a=none)→
   codeAny (model P w) callerA (.call (.ref fa) ⟨[.ref a],[]⟩) (fun r s'=>r=.ok (.ret (.bool true))∧OldK s₁.heap s'.heap∧s'.os=s₁.os∧AllBare s'.gens) s₁:=by
  intro H hO hS hok hA hK
  have Fq:∀{b:Addr} {o:Obj},s₁.heap.get? b=some o→H b=none→(ym s₁.heap H).get? b=some o:=fun e n=>JM e n
  have Wc:∀{b:Addr} {o:Obj} {es:Array DictEntry} {ep:Nat},s₁.heap.get? b=some o→o.data=.dict es ep→H b=none:=fun {b o es ep} e d=>by
   cases q:H b with
   | none=>rfl
   | some u=>
    have e':b=a:=hA b (by rw [q]; simp)
    subst e'
    rw [ha] at e; cases e
    have d':Data.seq vs.toArray _=Data.dict es ep:=d
    cases d'
  have XN:∀{b:Addr} {m:Str→Option Value},s₁.heap.Ns b m→(ym s₁.heap H).Ns b m:=fun {b m} ⟨o,es,ep,e,d,r⟩=>⟨o,es,ep,Fq e (Wc e d),d,r⟩
  have hKb:K.In (ym s₁.heap H):=fun b o e=>Fq (KX b o e) (by
   cases q:H b with
   | none=>rfl
   | some u=>
    have e':b=a:=hA b (by rw [q]; simp)
    subst e'
    rw [hK (by rw [q]; simp)] at e; cases e)
  have hM:Mod K mg (ym s₁.heap H):=⟨hKb,XN hns,⟨mb,XN hb,hbb⟩,let ⟨mc,h1,h2⟩:=hlim; ⟨mc,XN h1,h2⟩⟩
  have e0:CN P w K mg (ym s₁.heap H) callerA [] s₁ H:=⟨rfl,hM,fun b o e=>Ob e,Nat.le_of_eq (Hw _ _),trivial,fun b hb=>absurd (show b∈([]:List Addr) from hb) (by simp),hok,.of_eq hg⟩
  refine codeAny_mono ((F _ hKb (XN hns)).run callerA [] s₁ H ⟨[.ref a],[]⟩ [.ref a] [.ref a] _ _ hr e0 (hbind s₁ (.ref a)) (.cons rfl .nil) (hsp H hO hS)) fun r s' h=>?_
  cases r with
  | error e=>exact (YX H e s' h).elim
  | ok fl=>
   cases fl with
   | next=>exact False.elim h
   | brk=>exact False.elim h
   | cont=>exact False.elim h
   | ret u=>
    obtain ⟨v,H',os,bare,un,hok',r',q⟩:=h
    have q':v=.bl true:=q
    subst q'
    obtain rfl:u=Value.bool true:=r'
    refine ⟨rfl,OldK.of_keep fun b o e=>?_,os,bare⟩
    cases q:H b with
    | none=>exact un.keep b o e q (by intro z; exact absurd (show b∈([]:List Addr) from z) (by simp)) (by simp)
    | some u=>
     rcases hO b with z | ⟨ob,xs,z⟩
     ·rw [q] at z; cases z
     ·have z2:=un.qb b ob _ z
      obtain ⟨e1,_⟩:=hok b _ z
      obtain ⟨e2,_⟩:=hok' b _ z2
      rw [e] at e1; cases e1
      exact e2
 cases hk:K.lookup a with
 | some o=>
  have e:=KX a o hk
  rw [ha] at e
  cases e
  refine core (fun _=>none) (fun _=>.inl rfl) (.inr ⟨_,vs.toArray,_,hk,rfl,rfl,rfl,by rw [List.size_toArray,lenV]; exact hl,by simpa using rv⟩) (fun b u z=>by have z':(none:Option HO)=some u:=z; cases z') (fun b z=>absurd rfl z) fun z=>absurd rfl z
 | none=>
  refine core (fun b=>if b=a then some (.zP { cls:=.type "list",data:=.seq vs.toArray } (.lst (ns.map V.int))) else none) (fun b=>?_) (.inl (.inr ⟨{ cls:=.type "list",data:=.seq vs.toArray },if_pos rfl⟩)) (fun b u z=>?_) (fun b z=>?_) fun _=>hk
  ·by_cases hb:b=a
   ·exact .inr ⟨_,_,if_pos hb⟩
   ·exact .inl (if_neg hb)
  ·by_cases hb:b=a
   ·have z':=(if_pos hb).symm.trans z
    cases z'
    subst hb
    exact ⟨ha,by rw [List.length_map]; exact hl,vs,_,rv,ha⟩
   ·have z':=(if_neg hb).symm.trans z
    cases z'
  ·by_cases hb:b=a
   ·exact hb
   ·exact absurd (if_neg hb) z
end L2
namespace L2
open PySem PySem.Spec PyProof.Rows
theorem O3 {l:PySem.W.OpenLaw} {n k:Nat} {q:Program} {loose:List Str} {XP:(Str→Option Value)→Heap→Prop} {YP:World→Heap→Prop} {d:DefRec} {K:Params→PySem.W.Frag} {CX:World→HR} {sp:World→Sp} {x:Str}
  (hn:l.most=some n) (hn2:n≤sizeLine) (hdf:d.params.defaults=[]) (hr:fB k callerA)
  (hY:∀(w:World) (h:Heap),YP w h→(K w.params).In h)
  (F:∀(w:World) (mg:Str→Option Value) (fa:Addr) (h:Heap),(K w.params).In h→h.Ns mainGlobals mg→mg d.name=some (.ref fa)→
   ∃fd:FuncData,(∀(s:Shared) (u:Value),BindsTo s fd ⟨[u],[]⟩ [(x,u)])∧
    ∀base:Heap,(K w.params).In base→base.Ns mainGlobals mg→dD l.prog w (K w.params) mg base (CX w) k fa fd [x] (sp w))
  (hsp:∀(w:World) (H:Hp) (a:Addr) (ns:List Int),ns.length≤n→Only H→cJ (K w.params) H a (ns.map V.int)→sp w [.ref a] H (fun v _=>v=.bl true) fun _ _ _=>False)
  (YX:∀(w:World) (H:Hp) (s:Shared) (e:Value) (s':Shared),CX w [] H s (fun _ _ _=>False) e s'→False):
  PySem.W.WalkO q loose XP YP l.row.toRowW d [] (fun f vs=>PySem.call f vs):=by
 refine Att.z7 hn hdf fun w s₀ s₁ mg mb fa o pm cd doc a vs ns G Y ho hd hcd hmg hobj hints hlen hg=>?_
 have KX:=hY w _ Y
 obtain ⟨fd,hb,hF⟩:=F w mg fa _ KX G.T.g hmg
 exact Kl KX G.T.g G.T.b G.T.builtins G.T.nolimit hg hobj hints (Nat.le_trans hlen hn2) hr hF hb (fun H hO hS=>hsp w H a ns hlen hO hS) fun H e s'=>YX w H s₁ e s'
end L2
namespace L2
open PySem PySem.Spec PyProof.Rows
noncomputable def bZ (s:Stmt):Arguments:=match s with
 | .FunctionDef _ a _ _ _ _ _ _ _ _=>a
 | _=>{ posonlyargs:=[],args:=[],vararg:=none,kwonlyargs:=[],kw_defaults:=[],kwarg:=none,defaults:=[] }
noncomputable def bR (s:Stmt):List Stmt:=match s with
 | .FunctionDef _ _ b _ _ _ _ _ _ _=>b
 | _=>[]
noncomputable def aC (s:Stmt):Scope:=match s with
 | .FunctionDef _ _ _ _ _ _ sc _ _ _=>sc
 | _=>{ kind:=.function,names:=[],isGenerator:=false,isCoroutine:=false }
noncomputable abbrev rD:HR:=fun _ _ _ _ _ _=>False
noncomputable abbrev E0:XK:=fun _ _ _=>False
theorem Wm {X:Cx}:Passes rD X E0:=fun _ _ _ _ _ _ _ h=>h.elim
structure ue (K:PySem.W.Frag) (x qual:Str) (st:Stmt) (f:Addr) (fd:FuncData):Prop where
 ex:∃(oc:Value) (od:Option Addr) (kV doc pm:Value) (an:Option Addr) (cdv ct:Value) (osl:Array (Option Value)),
  fd=PySem.W.fnOf x qual (bZ st) (bR st) (aC st) .none kV doc pm an cdv ct∧K.lookup f=some ⟨oc,od,.func fd,osl⟩∧PySem.W.codeIn K cdv qual=true
 kp:PySem.W.keepIn K (.ref f)=true
section
variable {P:Program} {w:World} {K:PySem.W.Frag} {mg:Str→Option Value} {base:Heap}
theorem ue.ok {x qual:Str} {st:Stmt} {f:Addr} {fd:FuncData} {N ps:List Str} {k:Nat} {sp:Sp} (F:ue K x qual st f fd) (S:cg N ps (aC st)) (len:∀vs H Q E,sp vs H Q E→vs.length=ps.length)
  (hbody:∀(cdv:Value) (A:Around) (outer:List Env) (s:Shared) (H:Hp) (vs:List V) (Q:VK) (E:XK),fB k (A.deeper (envOfC qual (aC st) s.heap.objs.size f cdv))→sp vs H Q E→
   ∃t,sJ (CP rD P w K mg base N qual (aC st) f cdv A outer s H E).Og (bR st) t∧t { nx:=fun _ H'=>Q .non H',rt:=Q } (start N vs) H):dD P w K mg base rD (k + 1) f fd ps sp:=by
 obtain ⟨oc,od,kV,doc,pm,an,cdv,ct,osl,rfl,lk,hcd⟩:=F.ex
 refine Wd lk hcd S len fun A outer s H vs Q E hr hsp=>?_
 obtain ⟨t,h,q⟩:=hbody cdv A outer s H vs Q E hr hsp
 exact ⟨t,h.Og,q⟩
theorem ue.binds {x qual:Str} {st:Stmt} {f:Addr} {fd:FuncData} {ps:List Str} (F:ue K x qual st f fd)
  (h:∀(kV doc pm:Value) (an:Option Addr) (cdv ct:Value) (us:List Value),us.length=ps.length→bindArgs (PySem.W.fnOf x qual (bZ st) (bR st) (aC st) .none kV doc pm an cdv ct) ⟨us,[]⟩=pure (ps.zip us)):Binds K fd ps []:=by
 obtain ⟨oc,od,kV,doc,pm,an,cdv,ct,osl,rfl,lk,hcd⟩:=F.ex
 exact .all (h kV doc pm an cdv ct)
theorem dF {x qual:Str} {st:Stmt} {f:Addr} {oc:Value} {od an:Option Addr} {osl:Array (Option Value)} {kV doc pm cdv ct:Value} (l:K.lookup f=some ⟨oc,od,.func (PySem.W.fnOf x qual (bZ st) (bR st) (aC st) .none kV doc pm an cdv ct),osl⟩)
  (c:PySem.W.codeIn K cdv qual=true) (k:PySem.W.keepIn K (.ref f)=true):ue K x qual st f (PySem.W.fnOf x qual (bZ st) (bR st) (aC st) .none kV doc pm an cdv ct):=⟨⟨oc,od,kV,doc,pm,an,cdv,ct,osl,rfl,l,c⟩,k⟩
end
section
variable {X:Cx}
theorem pv (i:Nat) {x:Str} {pos:Pos} (hN:X.N[i]?=some x:=by rfl) (hv:Ym X.env.scope x:=by first | exact Or.inl rfl | exact Or.inr (Or.inl rfl) | exact Or.inr (Or.inr rfl)) (hd:(x==("__debug__":Str))=false:=by decide)
  (hcd:(x==("__classdict__":Str))=false:=by decide):PE X (.Name x pos) (tW i):=S7 hN hv hd hcd
end
theorem vW {A B:Prop} (h:B):if false=true then A else B:=by
 rw [if_neg Bool.false_ne_true]
 exact h
theorem vX {A B:Prop} (h:A):if true=true then A else B:=by
 rw [if_pos rfl]
 exact h
noncomputable def aV (H H':Hp):Prop:=∀b o,H b=some o→H' b=some o
theorem aV.refl (H:Hp):aV H H:=fun _ _ h=>h
theorem aV.trans {H H1 H2:Hp} (a:aV H H1) (b:aV H1 H2):aV H H2:=fun c o h=>b c o (a c o h)
theorem aV.free {H H':Hp} (e:aV H H') {l:Addr} (h:H' l=Option.none):H l=Option.none:=by
 cases q:H l with
 | none=>rfl
 | some o=>
  rw [e l o q] at h
  cases h
theorem aV.seq {K:PySem.W.Frag} {H H':Hp} {a:Addr} {xs:List V} (e:aV H H') (h:cJ K H a xs):cJ K H' a xs:=by
 rcases h with (h | ⟨o,h⟩) | h
 ·exact .inl (.inl (e _ _ h))
 ·exact .inl (.inr ⟨o,e _ _ h⟩)
 ·exact .inr h
section
variable {X:Cx}
theorem Ib:cI X (.builtin "len") (fun xs H Q=>∃a kvs,xs=[V.ref a]∧H a=some (.dK kvs)∧Q (.int kvs.length) H):=by
 intro pins s σ H xs us Q I r h
 obtain ⟨a,kvs,rfl,ha,q⟩:=h
 obtain ⟨u,rfl,ru⟩:=vals1 r
 cases ru
 exact Wl I (.inl ha) fun t s' I'=>⟨.int kvs.length,H,I',⟨t,rfl⟩,q⟩
end
section
variable {κ:Type} [DecidableEq κ]
end
end L2
namespace L2
open PySem PySem.Spec PyProof.Rows
noncomputable def Cx.blk (X:Cx) (N:List Str) (scope:Scope) (cl:List (Str×Addr)) (C:Addr) (s:Shared) (H:Hp) (fp:List Addr):Cx:=
 { X with N:=N,s₀:=s,H₀:=H,env:=compEnvC scope cl C X.env,outer:=X.stack,ex:=fp,fn:=fun _=>false,pn:=[],xe:=fun _ _=>False }
theorem kW {env:Env} (f:Str×NameKind→List (Str×Addr)→Sem (ForInStep (List (Str×Addr))))
  (hf:∀n k r,f (n,k) r=if k==NameKind.free then (do let c ←cellOf env n; pure (.yield ((n,c)::r))) else pure (.yield r)):
  ∀(names:List (Str×NameKind)) (cs:List (Str×Addr)),(∀y∈names,y.2=.free→∃c,env.cells.lookup y.1=some c)→(∀n c,cs.lookup n=some c→env.cells.lookup n=some c)→
   ∃cl,(forIn names cs f:Sem (List (Str×Addr)))=pure cl∧(∀n c,cl.lookup n=some c→env.cells.lookup n=some c)∧
    ∀n,((∃c,cs.lookup n=some c)∨∃y∈names,y.1=n∧y.2=.free)→∃c,cl.lookup n=some c
 | [],cs,_,h2=>⟨cs,rfl,h2,fun n h=>h.elim id fun ⟨_,hy,_⟩=>nomatch hy⟩
 | (n,k)::r,cs,h1,h2=>by
  rw [List.forIn_cons,hf]
  by_cases hk:k=.free
  ·subst hk
   obtain ⟨c,hc⟩:=h1 (n,.free) List.mem_cons_self rfl
   have hc':env.cells.lookup n=some c:=hc
   have e:cellOf env n=pure c:=by unfold cellOf; rw [hc']
   obtain ⟨cl,q1,q2,q3⟩:=kW f hf r ((n,c)::cs) (fun y hy=>h1 y (List.mem_cons_of_mem _ hy)) (fun m d hm=>by
    rw [List.lookup_cons] at hm
    by_cases hb:(m==n)=true
    ·rw [hb] at hm
     have:=eq_of_beq hb
     subst this
     cases hm
     exact hc'
    ·rw [Bool.not_eq_true] at hb
     rw [hb] at hm
     exact h2 m d hm)
   refine ⟨cl,?_,q2,fun m hm=>q3 m ?_⟩
   ·rw [if_pos (show (NameKind.free==NameKind.free)=true from rfl),e]
    simp only [pure_bind]
    exact q1
   ·by_cases hb:m=n
    ·subst hb
     exact .inl ⟨c,by simp [List.lookup_cons]⟩
    ·rcases hm with ⟨d,hm⟩ | ⟨y,hy,e1,e2⟩
     ·refine .inl ⟨d,?_⟩
      rw [List.lookup_cons,beq_eq_false_iff_ne.mpr hb]
      exact hm
     ·rcases List.mem_cons.mp hy with rfl | hy
      ·exact absurd e1.symm hb
      ·exact .inr ⟨y,hy,e1,e2⟩
  ·have hb:(k==NameKind.free)=false:=beq_eq_false_iff_ne.mpr hk
   obtain ⟨cl,q1,q2,q3⟩:=kW f hf r cs (fun y hy=>h1 y (List.mem_cons_of_mem _ hy)) h2
   refine ⟨cl,?_,q2,fun m hm=>q3 m ?_⟩
   ·rw [hb]
    simp only [Bool.false_eq_true,if_false,pure_bind]
    exact q1
   ·rcases hm with hm | ⟨y,hy,e1,e2⟩
    ·exact .inl hm
    ·rcases List.mem_cons.mp hy with rfl | hy
     ·exact absurd e2 hk
     ·exact .inr ⟨y,hy,e1,e2⟩
theorem jB {env:Env} {scope:Scope} (h1:∀y∈scope.names,y.2=.free→∃c,env.cells.lookup y.1=some c):
  ∃cl,closureFor scope env=pure cl∧(∀n c,cl.lookup n=some c→env.cells.lookup n=some c)∧∀y∈scope.names,y.2=.free→∃c,cl.lookup y.1=some c:=by
 unfold closureFor
 obtain ⟨cl,q1,q2,q3⟩:=kW (env:=env) (fun x r=>if (x.2==NameKind.free)=true then (do let c ←cellOf env x.1; pure (.yield ((x.1,c)::r))) else pure (.yield r)) (fun n k r=>rfl) scope.names [] h1 (fun n c h=>by simp at h)
 have q:=congrArg (fun t:Sem (List (Str×Addr))=>t >>= fun cs=>pure cs) q1
 simp only [pure_bind] at q
 exact ⟨cl,q,q2,fun y hy e=>q3 y.1 (.inr ⟨y,hy,rfl,e⟩)⟩
theorem oR {scope:Scope} {env:Env} {x:Str}:∀{names:List (Str×NameKind)},
  (names.map fun (n,k)=>if (k==NameKind.free&&env.scope.kind==.function&&env.kindOf n==some .cell) then (n,NameKind.cell) else (n,k)).lookup x=
   (names.lookup x).map fun k=>if (k==NameKind.free&&env.scope.kind==.function&&env.kindOf x==some .cell) then NameKind.cell else k
 | []=>rfl
 | (n,k)::r=>by
  have ih:=@oR scope env x r
  show List.lookup x ((if (k==NameKind.free&&env.scope.kind==.function&&env.kindOf n==some .cell)=true then (n,NameKind.cell) else (n,k))::_)=_
  cases hx:x==n with
  | true=>
   have e:=eq_of_beq hx
   subst e
   by_cases hc:(k==NameKind.free&&env.scope.kind==.function&&env.kindOf x==some .cell)=true
   ·rw [if_pos hc]; simp only [List.lookup_cons,beq_self_eq_true,Option.map_some,hc,if_true]
   ·rw [if_neg hc]; simp only [List.lookup_cons,beq_self_eq_true,Option.map_some,hc,if_false]; rfl
  | false=>
   by_cases hc:(k==NameKind.free&&env.scope.kind==.function&&env.kindOf n==some .cell)=true
   ·rw [if_pos hc]; simp only [List.lookup_cons,hx]; exact ih
   ·rw [if_neg hc]; simp only [List.lookup_cons,hx]; exact ih
noncomputable def frees (js:List Nat) (σ:St):St:=js.map fun j=>(σ[j]?).join
section
variable {X:Cx} {pins:List (Addr×Obj)} {σ:St} {H:Hp} {s s1:Shared} {NT NF:List Str} {js:List Nat} {scope:Scope} {cl:List (Str×Addr)} {fp:List Addr}
structure jt (X:Cx) (NT NF:List Str) (js:List Nat) (scope:Scope):Prop where
 kind:scope.kind=.function
 names:∀y∈scope.names,y.2=.local→scope.names.lookup y.1=some .local
 cell:∀y∈scope.names,y.2≠.cell
 free:∀y∈scope.names,y.2=.free→X.env.scope.names.lookup y.1=some .cell∨X.env.scope.names.lookup y.1=some .free
 len:js.length=NF.length
 fr:∀(k:Nat) (j:Nat) (x:Str),js[k]?=some j→NF[k]?=some x→X.N[j]?=some x∧scope.names.lookup x=some .free
 tg:∀x∈NT,scope.names.lookup x=some .local
 nd:(NT++NF).Nodup
theorem Inv.blk (I:Inv X pins σ H s) (B:jt X NT NF js scope) (q2:∀n c,cl.lookup n=some c→X.env.cells.lookup n=some c) (q3:∀y∈scope.names,y.2=.free→∃c,cl.lookup y.1=some c)
  (hf:∀b∈fp,iu X pins H b) (hlt:∀b∈fp,b < s.heap.objs.size) {m:Str→Option Value} (hns:s1.heap.Ns s.heap.objs.size m) (keep:∀b o,s.heap.get? b=some o→s1.heap.get? b=some o)
  (hos:s1.os=s.os) (hg:AllBare s1.gens):
  Inv (X.blk (NT++NF) scope cl s.heap.objs.size s H fp) [] (List.replicate NT.length none++frees js σ) H s1:=by
 have look:∀x,(X.blk (NT++NF) scope cl s.heap.objs.size s H fp).env.kindOf x=(scope.names.lookup x).map fun k=>if (k==NameKind.free&&X.env.scope.kind==.function&&X.env.kindOf x==some .cell) then NameKind.cell else k:=fun x=>oR (scope:=scope)
 have Ud:∀x,((X.blk (NT++NF) scope cl s.heap.objs.size s H fp).env.kindOf x=some .cell∨(X.blk (NT++NF) scope cl s.heap.objs.size s H fp).env.kindOf x=some .free)→scope.names.lookup x=some .free:=fun x h=>by
  rw [look] at h
  cases e:scope.names.lookup x with
  | none=>rw [e] at h; simp at h
  | some k=>
   rw [e] at h
   by_cases hk:k=.free
   ·rw [hk]
   ·have hb:(k==NameKind.free)=false:=beq_eq_false_iff_ne.mpr hk
    simp only [Option.map_some,hb,Bool.false_and,Bool.false_eq_true,if_false,Option.some.injEq] at h
    rcases h with h | h
    ·subst h
     exact absurd rfl (B.cell _ (PySem.mem_of_lookup e))
    ·exact absurd h hk
 have ltC:∀c x,X.env.cells.lookup x=some c→c < s.heap.objs.size:=fun c x e=>by
  obtain ⟨v,q⟩:=I.cell x c e
  exact q.lt
 refine ⟨⟨I.ok.mod,B.kind,I.ok.glob,I.ok.blt,Nat.le_refl _,fun x y c h1 h2=>I.ok.inj x y c (q2 x c h1) (q2 y c h2),fun x hx=>?_,fun x c h _=>(nomatch (show false=true from h)),I.ok.hd,I.ok.frames,.inl rfl,fun b hb=>⟨Nat.ne_of_lt (hlt b hb),fun x c e=>(hf b hb).2.2.2.2.1 x c (q2 x c e)⟩,I.bs,Nat.le_trans I.ok.NK I.sz,fun b o e hb=>?_,fun b hb hb2=>?_,I.stack,I.Ey⟩,
  hos,hg,Un.kept keep,⟨m,hns,fun i x v h1 h2 h3=>?_⟩,fun x c e=>?_,I.hok.fresh (Nat.le_refl _),fun x c e=>I.kj x c (q2 x c e),fun p hp=>(nomatch (show p∈([]:List (Addr×Obj)) from hp)),I.hok.kept keep,?_⟩
 ·exact q3 _ (PySem.mem_of_lookup (Ud x hx)) rfl
 ·rcases (hf b hb).2.2.2.1 with z | z
  ·exact I.ok.JN b o e z
  ·exact absurd (Nat.lt_of_lt_of_le (Heap.lt_size e) (Nat.le_trans I.ok.NK z)) (Nat.lt_irrefl _)
 ·obtain ⟨_,f1,f2,_⟩:=hf b hb
  rcases List.mem_cons.mp (I.qg b hb2) with z | z
  ·exact f1 z
  ·exact f2 z
 ·have h1':(NT++NF)[i]?=some x:=h1
  by_cases hi:i < NT.length
  ·rw [List.getElem?_append_left (by simpa using hi),List.getElem?_replicate] at h2
   split at h2 <;> cases h2
  ·have hi':NT.length≤i:=by omega
   rw [List.getElem?_append_right (by simpa using hi')] at h2
   rw [List.getElem?_append_right hi'] at h1'
   simp only [List.length_replicate] at h2
   unfold frees at h2
   rw [List.getElem?_map] at h2
   cases ej:js[i - NT.length]? with
   | none=>rw [ej] at h2; cases h2
   | some j=>
    rw [ej] at h2
    have h2':(σ[j]?).join=some v:=by simpa using h2
    obtain ⟨g1,g2⟩:=B.fr _ j x ej h1'
    have hj:σ[j]?=some (some v):=by
     cases e:σ[j]? with
     | none=>rw [e] at h2'; cases h2'
     | some o=>rw [e] at h2'; simp at h2'; rw [h2']
    have hk:=B.free _ (PySem.mem_of_lookup g2) rfl
    have hk':X.env.scope.names.lookup x=some .cell∨X.env.scope.names.lookup x=some .free:=hk
    obtain ⟨m0,hn0,hl0⟩:=I.loc
    obtain ⟨u,r,l⟩:=hl0 j x v g1 hj (.inr hk')
    refine ⟨u,r,.inr ⟨?_,?_⟩⟩
    ·rw [look,g2]
     by_cases hc:(NameKind.free==NameKind.free&&X.env.scope.kind==.function&&X.env.kindOf x==some .cell)=true
     ·left
      simp only [Option.map_some,hc,if_true]
     ·right
      simp only [Option.map_some,hc,if_false]
      rfl
    ·rcases l with ⟨k0,_⟩ | ⟨_,c,e,z⟩
     ·have k0':X.env.scope.names.lookup x=some .local:=k0
      rcases hk' with z | z <;> rw [z] at k0' <;> cases k0'
     ·obtain ⟨c',hc'⟩:=q3 _ (PySem.mem_of_lookup g2) rfl
      have hc2:cl.lookup x=some c':=hc'
      have e2:=q2 x c' hc2
      rw [e] at e2
      cases e2
      obtain ⟨o,ho,hd⟩:=z
      exact ⟨c,hc2,o,keep c o ho,hd⟩
 ·obtain ⟨v,o,ho,hd⟩:=I.cell x c (q2 x c e)
  exact ⟨v,o,keep c o ho,hd⟩
 ·show (List.replicate NT.length none++frees js σ).length=(NT++NF).length
  unfold frees
  simp [B.len]
theorem Inv.Km {N:List Str} {σ':St} {H':Hp} {s':Shared} {EY:List (Addr×Obj)} (I:Inv X pins σ H s) (hf:∀b∈fp,iu X pins H b) (J:Inv (X.blk N scope cl s.heap.objs.size s H fp) EY σ' H' s'):Inv X pins σ H' s':=
 I.call' J.os J.base J.hok J.bare fun b hb=>⟨(hf b hb).2.2.2.1,(hf b hb).2.1,(hf b hb).2.2.2.2.1,(hf b hb).2.2.2.2.2⟩
end
end L2
namespace L2
open PySem PySem.Spec PyProof.Rows
theorem O4 {α:Type} (a:List α) (x y:α) (b:List α) {n:Nat} (h:a.length=n):(a++x::b).set n y=a++y::b:=by
 subst h
 rw [List.set_append_right _ _ (Nat.le_refl _),Nat.sub_self]
 rfl
inductive mW where
 | one | many (n:Nat)
noncomputable def Rw (K:PySem.W.Frag):mW→V→Hp→List V→Prop
 | .one,x,_,vs=>vs=[x]
 | .many n,x,H,vs=>∃a,x=.ref a∧gw K H a vs∧vs.length=n
noncomputable def isNm (e:Expr) (x:Str):Prop:=∃pos,e=.Name x pos
noncomputable def oU (tg:Expr) (NT:List Str):mW→Prop
 | .one=>∃x,isNm tg x∧NT=[x]
 | .many n=>∃es k pos,tg=.Tuple es k pos∧Paired isNm es NT∧NT.length=n
theorem uf {env:Env}:∀{es:List Expr} {NT:List Str},Paired isNm es NT→assignEach es env=es.map fun e=>(false,assign e env)
 | _,_,.nil=>rfl
 | _,_,.cons ⟨pos,e⟩ t=>by
  subst e
  show (false,assign _ env)::assignEach _ env=_
  rw [uf t]
  rfl
section
variable {X:Cx} {pins:List (Addr×Obj)} {H:Hp} {E:Value→Shared→Prop}
theorem Ie {NT:List Str} {es:List Expr} (p:Paired isNm es NT):∀{pre NF:List Str} {σp fs:St} {s:Shared} {vs:List V} {us:List Value} {Q:Unit→Shared→Prop},
  X.N=pre++NT++NF→X.N.Nodup→(∀x∈NT,X.env.scope.names.lookup x=some .local)→σp.length=pre.length→vs.length=NT.length→
  Inv X pins (σp++(List.replicate NT.length none++fs)) H s→Vals vs us→(∀s',Inv X pins (σp++(vs.map some++fs)) H s'→Q () s')→
  wpAny (model X.prog X.w) X.A (assignInOrder (es.map fun e=>assign e X.env) us) Q E s:=by
 induction p with
 | nil=>
  intro pre NF σp fs s vs us Q hN nd hl hp hv I r q
  cases vs with
  | cons _ _=>simp at hv
  | nil=>
   cases r
   exact assignInOrder_nil (q s I)
 | @cons e x es NT he t ih=>
  intro pre NF σp fs s vs us Q hN nd hl hp hv I r q
  cases vs with
  | nil=>simp at hv
  | cons v vs=>
   cases r with
   | cons r rr=>
    obtain ⟨pos,rfl⟩:=he
    have hx:=hl x List.mem_cons_self
    have hi:X.N[pre.length]?=some x:=by
     rw [hN,List.append_assoc,List.getElem?_append_right (Nat.le_refl _)]
     simp
    refine assignInOrder_cons (wpAny_assign_Name (jn I nd hi (.inl hx) r (fun s' I'=>?_) (.inr hx)))
    have e1:(σp++(List.replicate (x::NT).length none++fs)).set pre.length (some v)=(σp++[some v])++(List.replicate NT.length none++fs):=by
     exact (O4 σp none (some v) (List.replicate NT.length none++fs) hp).trans (List.append_cons σp (some v) (List.replicate NT.length none++fs))
    rw [e1] at I'
    refine ih (pre:=pre++[x]) (NF:=NF) (σp:=σp++[some v]) (by rw [hN]; simp) nd (fun y hy=>hl y (List.mem_cons_of_mem _ hy)) (by simp [hp]) (by simpa using hv) I' rr fun s2 I2=>q s2 ?_
    have e2:σp++[some v]++(vs.map some++fs)=σp++((v::vs).map some++fs):=by simp
    rw [e2] at I2
    exact I2
theorem Ue {tg:Expr} {NT NF:List Str} {T:mW} {fs:St} {s:Shared} {v:V} {u:Value} {vs:List V} {Q:Unit→Shared→Prop} (tk:oU tg NT T) (hN:X.N=NT++NF) (nd:X.N.Nodup) (hc:X.calm=true)
  (hl:∀x∈NT,X.env.scope.names.lookup x=some .local) (I:Inv X pins (List.replicate NT.length none++fs) H s) (r:RelV v u) (hv:Rw X.K T v H vs)
  (q:∀s',Inv X pins (vs.map some++fs) H s'→Q () s'):wpAny (model X.prog X.w) X.A (assign tg X.env u) Q E s:=by
 cases T with
 | one=>
  obtain ⟨x,⟨pos,rfl⟩,rfl⟩:=tk
  have hv':vs=[v]:=hv
  subst hv'
  have hx:=hl x List.mem_cons_self
  exact wpAny_assign_Name (jn I nd (i:=0) (by rw [hN]; rfl) (.inl hx) r (fun s' I'=>q s' I') (.inr hx))
 | many n=>
  obtain ⟨es,k,pos,rfl,p,hn⟩:=tk
  obtain ⟨a,rfl,hq,hlen⟩:=hv
  cases r
  obtain ⟨its,rv,ht,hz⟩:=I.tuple hq
  have e:=uf (env:=X.env) p
  have hpl:=p.length
  refine assign_Tuple_tuple (I.ok.hd hc) ht (by rw [e]; simp only [List.length_map,List.size_toArray]; rw [←rv.length]; omega) (by rw [e]; simp) fun h' hx=>?_
  have I1:Inv X pins (List.replicate NT.length none++fs) H { s with heap:=h' }:=I.kept (t':=s.toks) fun b o e=>hx b o (Nat.ne_of_lt (Heap.lt_size e)) e
  rw [e,List.map_map]
  exact Ie p (pre:=[]) (σp:=[]) (by rw [hN]; rfl) nd hl rfl (by omega) I1 (by simpa using rv) q
end
noncomputable def turnOf (target iter:Expr) (ifs:List Expr) (it:Value) (env:Env) (emit:Sem Unit) (more:Sem PySem.Fin):Sem PySem.Fin:=do
 standAt iter.pos
 match ←pyNext it with
 | none=>pure (.done .next)
 | some v=>
  letOwnedTupleGo target it v
  assign target env v
  let mut ok:=true
  for c in ifs do
   if ok then ok ←isTrue c env (eval c env)
  if ok then emit
  more
theorem De (elt target iter:Expr) (ifs:List Expr) (scope:Scope) (pos:Pos) (it acc:Value) (env:Env):
  compTurn (.ListComp elt [⟨target,iter,ifs,0⟩] scope pos) 0 it acc env=turnOf target iter ifs it env (do let _ ←call (.builtin "list.append") [acc,←eval elt env]) (again (.compLoop (.ListComp elt [⟨target,iter,ifs,0⟩] scope pos) 0 it acc env)):=by rfl
theorem Df (kx vx target iter:Expr) (ifs:List Expr) (scope:Scope) (pos:Pos) (it:Value) (D:Addr) (env:Env):
  compTurn (.DictComp kx vx [⟨target,iter,ifs,0⟩] scope pos) 0 it (.ref D) env=turnOf target iter ifs it env (do
      let kv ←eval kx env
      let vv ←holding [kv] (eval vx env)
      standAt { kx.pos with endLine:=vx.pos.endLine,endCol:=vx.pos.endCol }
      holding [kv,vv] (dictSet D kv vv)) (again (.compLoop (.DictComp kx vx [⟨target,iter,ifs,0⟩] scope pos) 0 it (.ref D) env)):=by rfl
theorem Ig (elt target iter:Expr) (ifs:List Expr) (scope:Scope) (pos:Pos) (it acc:Value) (env:Env):
  compTurn (.SetComp elt [⟨target,iter,ifs,0⟩] scope pos) 0 it acc env=turnOf target iter ifs it env (do let v ←eval elt env; standAt elt.pos; let _ ←call (.builtin "set.add") [acc,v]) (again (.compLoop (.SetComp elt [⟨target,iter,ifs,0⟩] scope pos) 0 it acc env)):=by rfl
noncomputable def Ck (X:Cx) (ifs:List Expr) (t:TT):Prop:=
 ∀(pins:List (Addr×Obj)) (s:Shared) (σ:St) (H:Hp) (Q:Bool→Hp→Prop),Inv X pins σ H s→t σ H Q→
  wpAny (model X.prog X.w) X.A (forIn ifs true fun c r=>if r=true then do let ok ←isTrue c X.env (eval c X.env); pure (ForInStep.yield ok) else pure (ForInStep.yield r)) (TP X pins σ Q) X.xe s
noncomputable def YZ:TT:=fun _ H Q=>Q true H
theorem O5 {X:Cx}:Ck X [] YZ:=fun _ _ _ H _ I h=>wpAny_tests_nil ⟨H,I,h⟩
theorem O6 {X:Cx} {c:Expr} {t:TT} (h:PT X c t):Ck X [c] t:=fun pins s σ H Q I q=>wpAny_tests_one (h pins s σ H Q I q)
noncomputable abbrev TM:=St→Hp→(Hp→Prop)→Prop
noncomputable def PM (X:Cx) (emit:Sem Unit) (t:TM):Prop:=
 ∀(pins:List (Addr×Obj)) (s:Shared) (σ:St) (H:Hp) (Q:Hp→Prop),Inv X pins σ H s→t σ H Q→
  wpAny (model X.prog X.w) X.A emit (fun _ s'=>∃H',Inv X pins σ H' s'∧Q H') X.xe s
noncomputable def yH (D:Addr) (te:TE):TM:=fun σ H Q=>te σ H fun y H1=>∃xs,H1 D=some (.lst xs)∧xs.length < sizeLine∧Q (upd H1 D (.lst (xs++[y])))
theorem Ih {X:Cx} {D:Addr} {elt:Expr} {te:TE} (he:PE X elt te):PM X (do let _ ←call (.builtin "list.append") [.ref D,←eval elt X.env]) (yH D te):=by
 intro pins s σ H Q I h
 refine wpAny_bind (cF (he pins s σ H _ I h) fun v s1 aR=>?_)
 obtain ⟨y,H1,I1,r1,xs,hD,hz,q⟩:=aR
 refine wpAny_bind (cF (wO (X:=X) pins s1 σ H1 (.ref D) [y] (.ref D) [v] (fun _ H'=>Q H') I1 rfl (.cons r1 .nil) ⟨D,xs,y,rfl,rfl,hD,hz,q⟩) fun _ s2 ⟨_,H2,I2,_,q2⟩=>wpAny_pure ⟨H2,I2,q2⟩)
noncomputable def Dg (K:PySem.W.Frag) (T:mW) (ts:TT) (em:TM) (fs:St) (J:It) (H0:Hp) (done:Hp→Prop):Prop:=
 ∃W:Nat→Nat→Hp→Prop,(∃m,W 0 m H0)∧∀i m H,W i m H→
  (J.stop i H∧done H)∨(J.go i H∧∀x H',J.Rk i H x H'→∃vs,Rw K T x H' vs∧
   ts (vs.map some++fs) H' fun b H2=>if b=true then em (vs.map some++fs) H2 fun H3=>∃m',m' < m∧W (i + 1) m' H3 else ∃m',m' < m∧W (i + 1) m' H2)
section
variable {X:Cx} {NT NF:List Str} {tg iter e:Expr} {ifs:List Expr} {T:mW} {ts:TT} {em:TM} {emit:Sem Unit} {acc:Value} {fp:List Addr} {it:Addr} {J:It} {tn:Nat→Heap→Prop}
theorem Ko {fs:St} {vs:List V} {pins:List (Addr×Obj)} {H:Hp} {s:Shared} (hv:vs.length=NT.length) (I:Inv X pins (vs.map some++fs) H s):Inv X pins (List.replicate NT.length none++fs) H s:=
 I.weak (by simp [hv]) fun i v h=>by
  by_cases hi:i < NT.length
  ·rw [List.getElem?_append_left (by simpa using hi),List.getElem?_replicate] at h
   split at h <;> cases h
  ·rw [List.getElem?_append_right (by simp; omega)] at h ⊢
   simpa [hv] using h
theorem Rw.len {tg:Expr} {K:PySem.W.Frag} {x:V} {H:Hp} {vs:List V} (tk:oU tg NT T) (h:Rw K T x H vs):vs.length=NT.length:=by
 cases T with
 | one=>obtain ⟨y,_,rfl⟩:=tk; rw [show vs=[x] from h]; rfl
 | many n=>obtain ⟨_,_,_,_,_,e⟩:=tk; obtain ⟨_,_,_,e'⟩:=h; omega
theorem ug {R:Result→Shared→Prop} {fs:St} {H:Hp} {s:Shared} {done:Hp→Prop} (hx:X.xe=fun _ _=>False) (hT:compTurn e 0 (.ref it) acc X.env=turnOf tg iter ifs (.ref it) X.env emit (again (.compLoop e 0 (.ref it) acc X.env)))
  (hq:(Code.compLoop e 0 (.ref it) acc X.env).isFrame=false) (hqu:(Code.compLoop e 0 (.ref it) acc X.env).quiet=true) (hA:X.A.under (Code.compLoop e 0 (.ref it) acc X.env)=X.A)
  (tk:oU tg NT T) (hN:X.N=NT++NF) (nd:X.N.Nodup) (hc:X.calm=true) (hl:∀x∈NT,X.env.scope.names.lookup x=some .local)
  (hts:Ck X ifs ts) (hem:PM X emit em) (TT:Turn X.prog X.w X.K tg J fp it tn) (hf:∀b∈fp,iu X [] H b) (I:Inv X [] (List.replicate NT.length none++fs) H s) (st:tn 0 s.heap) (hb:Dg X.K T ts em fs J H done)
  (hR:∀H' s' σ',Inv X [] σ' H' s'→done H'→R (.ok .next) s'):
  codeAny (model X.prog X.w) X.A (.compLoop e 0 (.ref it) acc X.env) R s:=by
 obtain ⟨W,⟨m0,w0⟩,turn⟩:=hb
 have stat:∀{H':Hp},(∀b∈fp,H' b=none)→∀b∈fp,iu X [] H' b:=fun hn b hb=>⟨hn b hb,(hf b hb).2⟩
 have noE:∀{α:Type} {t:Sem α} {Q:α→Shared→Prop} {E:Value→Shared→Prop} {s:Shared},wpAny (model X.prog X.w) X.A t Q (fun _ _=>False) s→wpAny (model X.prog X.w) X.A t Q E s:=fun h=>wpAny_mono h (fun _ _ z=>z) fun _ _ z=>z.elim
 have noX:∀{α:Type} {t:Sem α} {Q:α→Shared→Prop} {E:Value→Shared→Prop} {s:Shared},wpAny (model X.prog X.w) X.A t Q X.xe s→wpAny (model X.prog X.w) X.A t Q E s:=fun h=>noE (by rw [hx] at h; exact h)
 refine codeAny_loop hqu (fun n s'=>∃i H',Inv X [] (List.replicate NT.length none++fs) H' s'∧tn i s'.heap∧(∀b∈fp,H' b=none)∧W i n H') ?_ m0 ⟨0,H,I,st,fun b hb=>(hf b hb).1,w0⟩
 rintro n s3 ⟨i,H3,I3,st3,V0,w3⟩
 rw [hA]
 show wpAny _ X.A (if (Code.compLoop e 0 (.ref it) acc X.env).isFrame=true then (compTurn e 0 (.ref it) acc X.env).onRaise (leaving X.env) else (compTurn e 0 (.ref it) acc X.env).onRaise (fun x=>do noteFrame x X.env; theTreesLotGoes x)) _ _ s3
 rw [hq,if_neg Bool.false_ne_true]
 refine wpAny_noted (noE ?_)
 rw [hT]
 unfold turnOf
 refine wpAny_bind (wpAny_standAt (wpAny_bind ?_))
 rcases turn i n H3 w3 with ⟨stop,qn⟩ | ⟨go,step⟩
 ·refine cF (TT.done X rfl rfl rfl hc i [] s3 _ H3 _ I3 (stat V0) st3 stop) fun r s4 aR=>?_
  obtain ⟨hr,I4⟩:=aR
  subst hr
  exact wpAny_pure (hR H3 s4 _ I4 qn)
 ·refine cF (TT.item X rfl rfl rfl hc i [] s3 _ H3 _ I3 (stat V0) st3 go) fun r s4 aR=>?_
  obtain ⟨u,hr,h4⟩:=aR
  subst hr
  refine wpAny_bind (cF h4 fun _ s5 aR=>?_)
  obtain ⟨x,H5,I5,r5,y5,Tn,Yz⟩:=aR
  have YB:=I5.pinned (stat Yz) (TT.obj _ _ Tn)
  obtain ⟨vs,hv,q5⟩:=step x H5 y5
  have hvl:=Rw.len tk hv
  refine wpAny_bind (Ue tk hN nd hc hl YB r5 hv fun s6 I6=>?_)
  refine wpAny_bind (noX (cF (hts _ s6 _ H5 _ I6 q5) fun b s7 aR=>?_))
  obtain ⟨H7,I7,q7⟩:=aR
  have Kq:∀{s8:Shared} {H8:Hp},Inv X ([]++tZ fp s5.heap) (vs.map some++fs) H8 s8→(∃m',m' < n∧W (i + 1) m' H8)→
    (Code.compLoop e 0 (.ref it) acc X.env=Code.compLoop e 0 (.ref it) acc X.env)∧∃m,m < n∧∃i H',Inv X [] (List.replicate NT.length none++fs) H' s8∧tn i s8.heap∧(∀b∈fp,H' b=none)∧W i m H':=fun {s8 H8} I8 n8=>by
   obtain ⟨m',hm,w8⟩:=n8
   refine ⟨rfl,m',hm,i + 1,H8,Ko hvl I8.oG,TT.keep _ _ _ Tn fun b hb o e=>(I8.pin (b,o) (List.mem_append_right _ (List.mem_append_right _ (jA hb e)))).1,fun b hb=>?_,w8⟩
   obtain ⟨o,e,d⟩:=TT.obj _ _ Tn b hb
   exact (I8.pin (b,o) (List.mem_append_right _ (List.mem_append_right _ (jA hb e)))).2.1
  cases b with
  | false=>exact wpAny_pure (Kq I7 q7)
  | true=>exact wpAny_bind (noX (cF (hem _ s7 _ H7 _ I7 q7) fun _ s8 ⟨H8,I8,q8⟩=>wpAny_pure (Kq I8 q8)))
end
end L2
namespace L2
open PySem PySem.Spec PyProof.Rows
structure Bk where
 cl:List (Str×Addr)
 C:Addr
 s:Shared
 H:Hp
 fp:List Addr
noncomputable abbrev Cx.bk (X:Cx) (N:List Str) (scope:Scope) (b:Bk):Cx:=X.blk N scope b.cl b.C b.s b.H b.fp
section
variable {X:Cx} {NT NF:List Str} {js:List Nat} {elt kx vx tg iter e:Expr} {ifs:List Expr} {T:mW} {wi:TI} {ts:Bk→TT} {te tk' tv:Bk→TE} {scope:Scope} {pos:Pos}
noncomputable def Y0 (K:PySem.W.Frag) (wi:TI) (T:mW) (ts:Bk→TT) (te:Bk→TE) (js:List Nat):TE:=fun σ H Q=>wi σ H fun J H1=>∀D,H1 D=none→∀b,Dg K T (ts b) (yH D (te b)) (frees js σ) J (upd H1 D (.lst [])) (Q (.ref D))
theorem Kr {pins:List (Addr×Obj)} {σ:St} {s2:Shared} {H2:Hp} {cl:List (Str×Addr)} {it:Addr} {fp:List Addr} {tn:Nat→Heap→Prop} {J:It} {Q:Hp→Prop} {RR:Value→Addr→Result→Shared→Prop} {E:Value→Shared→Prop}
  (B:jt X NT NF js scope) (tk:oU tg NT T) (hc:X.calm=true)
  (hin:∀b,Ck (X.bk (NT++NF) scope b) ifs (ts b)∧PE (X.bk (NT++NF) scope b) elt (te b))
  (q2:∀n c,cl.lookup n=some c→X.env.cells.lookup n=some c) (q3:∀y∈scope.names,y.2=.free→∃c,cl.lookup y.1=some c)
  (I2:Inv X pins σ H2 s2) (TT:Turn X.prog X.w X.K tg J fp it tn) (st2:tn 0 s2.heap) (f2:∀b∈fp,iu X pins H2 b)
  (q:∀b,Dg X.K T (ts b) (yH s2.heap.objs.size (te b)) (frees js σ) J (upd H2 s2.heap.objs.size (.lst [])) Q)
  (hR:∀C H' s' m,Inv X pins σ H' s'→iu X pins H' C→s'.heap.Ns C m→Q H'→RR (.ref s2.heap.objs.size) C (.ok .next) s'):
  wpAny (model X.prog X.w) X.A (newList []) (fun acc s₃=>wpAny (model X.prog X.w) X.A (newFunctionEnv scope X.env.globals cl [] X.env.qual none .none (some X.env)) (fun cenv s₄=>
   codeAny (model X.prog X.w) X.A (.compStart (.ListComp elt [⟨tg,iter,ifs,0⟩] scope pos) 0 (.ref it) acc { cenv with scope:=relabel scope X.env }) (RR acc cenv.locals) s₄) E s₃) E s2:=by
 refine wpAny_newObj_type ?_
 have hD:H2 s2.heap.objs.size=none:=I2.hok.fresh (Nat.le_refl _)
 have I3:Inv X pins σ (upd H2 s2.heap.objs.size (.lst [])) { s2 with heap:=s2.heap.push { cls:=.type "list",dict:=none,data:=.seq ([]:List Value).toArray } }:=
  I2.laid (t':=s2.toks) (fun b o e=>Heap.get?_push_of_some _ e) (Nat.le_refl _) ⟨Nat.zero_le _,[],0,.nil,Heap.get?_push_size _ rfl⟩
 have hsz:(s2.heap.push { cls:=.type "list",dict:=none,data:=.seq ([]:List Value).toArray }).objs.size=s2.heap.objs.size + 1:=Heap.size_push ..
 refine wpAny_newFunctionEnv B.cell (by intro y hy; simp at hy) (fun h₁ hns₁ hsb₁=>?_) B.kind
 have NP:∀b∈fp,b < s2.heap.objs.size:=fun b hb=>by
  obtain ⟨o,e,_⟩:=TT.obj 0 _ st2 b hb
  exact Heap.lt_size e
 have f3:∀b∈fp,iu X pins (upd H2 s2.heap.objs.size (.lst [])) b:=fun b hb=>⟨by rw [aO (Nat.ne_of_lt (NP b hb))]; exact (f2 b hb).1,(f2 b hb).2⟩
 have keep:∀b o,(s2.heap.push { cls:=.type "list",dict:=none,data:=.seq ([]:List Value).toArray }).get? b=some o→h₁.get? b=some o:=fun b o e=>
  hsb₁.extBut b o (Nat.ne_of_lt (Heap.lt_size e)) (Heap.get?_push_of_some _ e)
 have Rx:∀b∈fp,b < (s2.heap.push { cls:=.type "list",dict:=none,data:=.seq ([]:List Value).toArray }).objs.size:=fun b hb=>by have:=NP b hb; rw [hsz]; exact Nat.lt_succ_of_lt this
 have I4:=I3.blk (s1:={ s2 with heap:=h₁,toks:=s2.toks + ([]:List (Str×Value)).length }) B q2 q3 f3 Rx hns₁ keep rfl I2.bare
 have Ry:tn 0 h₁:=TT.keep 0 _ _ st2 fun b _ o e=>keep b o (Heap.get?_push_of_some _ e)
 obtain ⟨i1,i2⟩:=hin ⟨cl,(s2.heap.push { cls:=.type "list",dict:=none,data:=.seq ([]:List Value).toArray }).objs.size,{ s2 with heap:=s2.heap.push { cls:=.type "list",dict:=none,data:=.seq ([]:List Value).toArray } },upd H2 s2.heap.objs.size (.lst []),fp⟩
 have loop:codeAny (model X.prog X.w) X.A (.compLoop (.ListComp elt [⟨tg,iter,ifs,0⟩] scope pos) 0 (.ref it) (.ref s2.heap.objs.size) (compEnvC scope cl (s2.heap.push { cls:=.type "list",dict:=none,data:=.seq ([]:List Value).toArray }).objs.size X.env))
   (RR (.ref s2.heap.objs.size) (s2.heap.push { cls:=.type "list",dict:=none,data:=.seq ([]:List Value).toArray }).objs.size) { s2 with heap:=h₁,toks:=s2.toks + ([]:List (Str×Value)).length }:=by
  refine ug (X:=X.blk (NT++NF) scope cl (s2.heap.push { cls:=.type "list",dict:=none,data:=.seq ([]:List Value).toArray }).objs.size { s2 with heap:=s2.heap.push { cls:=.type "list",dict:=none,data:=.seq ([]:List Value).toArray } } (upd H2 s2.heap.objs.size (.lst [])) fp)
   (T:=T) (fs:=frees js σ) (done:=Q) rfl (De elt tg iter ifs scope pos _ _ _) rfl rfl rfl tk rfl B.nd hc (fun x hx=>lookup_relabel_local (B.tg x hx)) i1 (Ih i2) TT (fun b hb=>?_) I4 Ry (q _) fun H' s' σ' J' qd=>?_
  ·exact ⟨(f3 b hb).1,Nat.ne_of_lt (Rx b hb),fun hb2=>by
    rcases List.mem_cons.mp (I3.qg b hb2) with z | z
    ·exact (f3 b hb).2.1 z
    ·exact (f3 b hb).2.2.1 z,.inl hb,fun x c e=>(f3 b hb).2.2.2.2.1 x c (q2 x c e),fun p hp=>(nomatch (show p∈([]:List (Addr×Obj)) from hp))⟩
  ·obtain ⟨m,hn,_⟩:=J'.loc
   exact hR _ H' s' m (I3.Km f3 J') (I3.yr (Nat.le_refl _) J'.free) hn qd
 exact codeAny_compStart_list loop (TT.self _ 0 _ _ _ Ry loop)
theorem Wn (B:jt X NT NF js scope) (tk:oU tg NT T) (hc:X.calm=true) (hi:PI X tg iter wi)
  (hin:∀b,Ck (X.bk (NT++NF) scope b) ifs (ts b)∧PE (X.bk (NT++NF) scope b) elt (te b))
  (hs:∀x,foldedSetIterable iter X.env x=pure x:=by intro _; rfl):PE X (.ListComp elt [⟨tg,iter,ifs,0⟩] scope pos) (Y0 X.K wi T ts te js):=by
 intro pins s σ H Q I h
 obtain ⟨cl,hclos,q2,q3⟩:=jB (env:=X.env) (scope:=scope) fun y hy e=>I.ok.has y.1 (B.free y hy e)
 rw [eval_ListComp]
 refine wpAny_comprehension_free (use:=none) rfl hs hclos B.kind B.names (cF (hi pins s σ H _ I h) fun v s1 h1=>cF h1 fun itv s2 aR=>?_)
 obtain ⟨it,fp,tn,J,H2,e,I2,TT,st2,f2,q⟩:=aR
 subst e
 refine Kr (Q:=fun H'=>Q (.ref s2.heap.objs.size) H') (RR:=fun acc C=>compPost (model X.prog X.w) X.A X.xe none (EP X pins σ Q) acc C) B tk hc hin q2 q3 I2 TT st2 f2 (q _ (I2.hok.fresh (Nat.le_refl _))) fun C H' s' m I' fC hn qd=>?_
 refine ⟨m,hn,fun h' sb=>⟨.ref s2.heap.objs.size,H',?_,rfl,qd⟩⟩
 exact I'.turned (t':=s'.toks) (fun b o hb e=>(sb.2 b hb).trans e) fC.1 fC.2.1 fC.2.2.2.1 fC.2.2.2.2.1 fC.2.2.2.2.2
theorem Ks {i:Nat} {y:Str} {pos' spos:Pos} (B:jt X NT NF js scope) (tk:oU tg NT T) (hc:X.calm=true) (hi:PI X tg iter wi)
  (hin:∀b,Ck (X.bk (NT++NF) scope b) ifs (ts b)∧PE (X.bk (NT++NF) scope b) elt (te b))
  (hsw:swapsWith (.ListComp elt [⟨tg,iter,ifs,0⟩] scope pos) (some (.Name y pos')) spos.line X.env=pure true)
  (hN:X.N.Nodup) (hI:X.N[i]?=some y) (hy:X.env.scope.names.lookup y=some .local)
  (hs:∀x,foldedSetIterable iter X.env x=pure x:=by intro _; rfl):PS X (.Assign [.Name y pos'] (.ListComp elt [⟨tg,iter,ifs,0⟩] scope pos) spos) (HB (Y0 X.K wi T ts te js) (rA i)):=by
 intro pins s σ H D I h
 obtain ⟨cl,hclos,q2,q3⟩:=jB (env:=X.env) (scope:=scope) fun y hy e=>I.ok.has y.1 (B.free y hy e)
 rw [exec_Assign_Name_used _ _ _ _ hsw]
 refine wpAny_bind (wpAny_standAt (wpAny_bind ?_))
 show wpAny _ X.A (do let _ ←comprehension (.ListComp elt [⟨tg,iter,ifs,0⟩] scope pos) scope X.env _ (newList []) false (eval iter X.env) (some (assign (.Name y pos') X.env))) _ _ s
 refine wpAny_bind (wpAny_mono (wpAny_comprehension_free (use:=some (assign (.Name y pos') X.env)) (Q:=fun _ s'=>SP X pins D .next s') rfl hs hclos B.kind B.names
  (cF (hi pins s σ H _ I h) fun v s1 h1=>cF h1 fun itv s2 ⟨it,fp,tn,J,H2,e,I2,TT,st2,f2,q⟩=>?_)) (fun _ s' hq=>wpAny_pure (wpAny_pure hq)) fun _ _ e=>e)
 subst e
 refine Kr (Q:=fun H'=>D.nx (σ.set i (some (.ref s2.heap.objs.size))) H') (RR:=fun acc C=>compPost (model X.prog X.w) X.A X.xe (some (assign (.Name y pos') X.env)) (fun _ s'=>SP X pins D .next s') acc C) B tk hc hin q2 q3 I2 TT st2 f2 (q _ (I2.hok.fresh (Nat.le_refl _))) fun C H' s' m I' fC hn qd=>?_
 show wpAny _ X.A (assign (.Name y pos') X.env (.ref s2.heap.objs.size)) _ _ _
 refine wpAny_assign_Name (qi I' hN hI (.inl hy) (v:=.ref s2.heap.objs.size) rfl (fun s3 I3 aR=>?_) (.inr hy))
 obtain ⟨a,sb,ha⟩:=aR
 have Y4:C≠a:=by
  rcases ha with z | z
  ·rw [z]; exact fC.2.1
  ·exact fun w=>fC.2.2.2.2.1 y a z w.symm
 refine ⟨m,hn.sameBut sb Y4,fun h' sb'=>⟨_,H',?_,qd⟩⟩
 exact I3.turned (t':=s3.toks) (fun b o hb e=>(sb'.2 b hb).trans e) fC.1 fC.2.1 fC.2.2.2.1 fC.2.2.2.2.1 fC.2.2.2.2.2
end
end L2
namespace L2
open PySem PySem.Spec PyProof.Rows
noncomputable def Y5 (z:Str):It:=⟨fun i _=>i < z.cps.size,fun i H x H'=>H'=H∧∃c,z.cps[i]?=some c∧x=.str ⟨#[c]⟩,fun i _=>z.cps.size≤i⟩
theorem Ku {P:Program} {w:World} {K:PySem.W.Frag} {tg:Expr} {z:Str} {t:Tok} {ty:String} {it:Addr} (hty:ty="str_ascii_iterator"∨ty="str_iterator") (hgo:∀i u,letOwnedTupleGo tg i u=pure ()):
  Turn P w K tg (Y5 z) [it] it (fun i h=>h.IsStrIter it ty z t i) where
 mem:=by simp
 obj:=fun i h st b hb=>by
  have e:b=it:=by simpa using hb
  subst e
  obtain ⟨o,e,c,d⟩:=st
  exact ⟨o,e,fun v q=>by rw [d] at q; cases q⟩
 keep:=fun i h h' st k=>let ⟨o,ho,r⟩:=st; ⟨o,k it (by simp) o ho,r⟩
 item:=by
  intro X hP hw hK hc i pins s σ H E I hf st hg
  subst hP hw hK
  obtain ⟨f0,f1,f2,f3,f4,f5⟩:=hf it (by simp)
  have hi:i < z.cps.size:=hg
  have W:Walks X.prog X.w X.A it [it] [it] z.cps.size (SignAt z) (fun i h=>h.IsStrIter it ty z t i):=by
   rcases hty with rfl | rfl
   ·exact Walks.strAscii (I.ok.hd hc) it z t
   ·exact Walks.strWide (I.ok.hd hc) it z t
  refine W.item i s _ _ hi st fun v h' tk hv st' kk=>?_
  obtain ⟨c,u,hc',rfl⟩:=hv
  have I1:Inv X pins σ H { s with heap:=h',toks:=tk }:=I.turned (fun b o hb e=>kk b o (by simpa using hb) e) f0 f1 f3 f4 f5
  refine ⟨_,rfl,?_⟩
  rw [hgo]
  exact wpAny_pure ⟨.str ⟨#[c]⟩,H,I1,⟨u,rfl⟩,⟨rfl,c,hc',rfl⟩,st',fun b hb=>(hf b hb).1⟩
 done:=by
  intro X hP hw hK hc i pins s σ H E I hf st hg
  subst hP hw hK
  obtain ⟨f0,f1,f2,f3,f4,f5⟩:=hf it (by simp)
  have hi:z.cps.size≤i:=hg
  rcases hty with rfl | rfl
  ·exact wpAny_pyNext_ascii_end (I.ok.hd hc) st (by simpa using hi) fun h' eb=>⟨rfl,I.turned (t':=s.toks) (fun b o hb e=>eb b o hb e) f0 f1 f3 f4 f5⟩
  ·exact wpAny_pyNext_wide_end (I.ok.hd hc) st (by simpa using hi) fun h' eb=>⟨rfl,I.turned (t':=s.toks) (fun b o hb e=>eb b o hb e) f0 f1 f3 f4 f5⟩
 self:=fun _ _ _ _ _ st h=>by
  rcases hty with rfl | rfl
  ·exact wpAny_pyIter_striter_ascii st h
  ·exact wpAny_pyIter_striter_wide st h
section
variable {X:Cx} {tg:Expr}
noncomputable def Y6 (tl:TE):TI:=fun σ H R=>tl σ H fun x H1=>∃z,x=.str z∧R (Y5 z) H1
theorem Kv {l:Expr} {tl:TE} (hl:PE X l tl) (hgo:∀i u,letOwnedTupleGo tg i u=pure ():=by intro _ _; rfl):PI X tg l (Y6 tl):=by
 intro pins s σ H R I h
 refine cF (hl pins s σ H _ I h) fun v s1 aR=>?_
 obtain ⟨x,H1,I1,r1,q1⟩:=aR
 obtain ⟨z,e,q⟩:=q1
 subst e
 obtain ⟨t,rfl⟩:=r1
 have fin:∀(o:Obj) (ty:String),(ty="str_ascii_iterator"∨ty="str_iterator")→Heap.IsStrIter (s1.heap.push o) s1.heap.objs.size ty z t 0→PIE X pins σ tg R (.ref s1.heap.objs.size) { s1 with heap:=s1.heap.push o }:=fun o ty hty st=>by
  refine ⟨s1.heap.objs.size,[s1.heap.objs.size],_,_,H1,rfl,I1.kept (t':=s1.toks) fun b o e=>Heap.get?_push_of_some _ e,Ku hty hgo,st,fun b hb=>?_,q⟩
  have e:b=s1.heap.objs.size:=by simpa using hb
  subst e
  exact I1.yr (Nat.le_refl _) (I1.hok.fresh (Nat.le_refl _))
 cases ha:z.cps.all (· < 128)
 ·exact wpAny_pyIter_wide ha (fin _ _ (.inr rfl) ⟨_,Heap.get?_push_size _ rfl,rfl,rfl⟩)
 ·exact wpAny_pyIter_ascii ha (fin _ _ (.inl rfl) ⟨_,Heap.get?_push_size _ rfl,rfl,rfl⟩)
theorem Ii:gA X (compareOp .LtE) (fun x y H Q=>∃i j,x=.str i∧y=.str j∧Q (.bl (!(decide (j.cps.toList < i.cps.toList)))) H):=by
 intro pins s σ H x y v u Q I rx ry h
 obtain ⟨i,j,rfl,rfl,q⟩:=h
 obtain ⟨t,rfl⟩:=rx
 obtain ⟨t',rfl⟩:=ry
 exact PySem.P.le_str (bD I q rfl)
theorem nC:∀{ys:List Str} {us:List Value},Vals (ys.map V.str) us→StrsAre us ys
 | [],_,h=>by cases h; exact .nil
 | y::ys,_,h=>by
  cases h with
  | cons r rr=>
   obtain ⟨t,rfl⟩:=r
   exact .cons y t (nC rr)
theorem O7:Rq X "str.join" (fun x xs H Q=>∃z p ys,x=.str z∧xs=[.ref p]∧cJ X.K H p (ys.map V.str)∧(ys.map (·.length)).sum + ys.length * z.length≤16777216∧Q (.str (Txt.join z ys)) H):=by
 intro pins s σ H x xs v us Q I rx r h
 obtain ⟨z,p,ys,rfl,rfl,hp,hz,q⟩:=h
 obtain ⟨t,rfl⟩:=rx
 obtain ⟨u,rfl,ru⟩:=vals1 r
 cases ru
 obtain ⟨its,rv,pl,_⟩:=I.list hp
 exact join_list pl.isList (by simpa using nC rv) hz fun t' k=>⟨.str _,H,I.tok _,⟨_,rfl⟩,q⟩
end
end L2
namespace L2
open PySem PySem.Spec PyProof.Rows
section
variable {X:Cx}
theorem part_of {v:Value} {o:Option Int} (h:IsPart v o):∃l:Option (Int×Tok),v=partValue l∧l.map (·.1)=o:=by
 cases h with
 | none=>exact ⟨none,rfl,rfl⟩
 | int i t=>exact ⟨some (i,t),rfl,rfl⟩
theorem Ug:Oz X (fun x lo hi H Q=>∃z,x=.str z∧z.length≤sizeLine∧Q (.str (Txt.slice z lo hi)) H):=by
 intro pins s σ H x v vl vu lo hi sl Q I rx hs pl pu h
 obtain ⟨z,rfl,hz,q⟩:=h
 obtain ⟨t,rfl⟩:=rx
 obtain ⟨l,rfl,rfl⟩:=part_of pl
 obtain ⟨u,rfl,rfl⟩:=part_of pu
 refine ⟨"str",_,F.slot_str_getitem.lookup,typeIs_str s z t,?_⟩
 exact wpAny_getItem_str_slice (l:=l) (u:=u) (st:=none) hs rfl (post_val_or_str ⟨Nat.le_trans (Txt.slice_le z _ _) hz,fun t' k=>⟨.str _,H,I.tok _,⟨t',rfl⟩,q⟩⟩)
theorem z8:∀{bs:List Bool} {us:List Value},Vals (bs.map V.bl) us→us=bs.map Value.bool
 | [],_,h=>by cases h; rfl
 | b::bs,_,h=>by
  cases h with
  | cons r rr=>
   cases r
   rw [z8 rr]
   rfl
theorem z9 (hc:X.calm=true):cI X (.builtin "all") (fun xs H Q=>∃(p:Addr) (bs:List Bool),xs=[.ref p]∧cJ X.K H p (bs.map V.bl)∧Q (.bl (bs.all id)) H):=by
 intro pins s σ H xs us Q I r h
 obtain ⟨p,bs,rfl,hp,q⟩:=h
 obtain ⟨u,rfl,ru⟩:=vals1 r
 cases ru
 obtain ⟨its,rv,pl,_⟩:=I.list hp
 have hl:=pl.isList
 have e0:=z8 rv
 subst e0
 have hlt:p < s.heap.objs.size:=by obtain ⟨_,e,_⟩:=hl; exact Heap.lt_size e
 refine call_all_walk (wpAny_pyIter_list hl ?_)
 refine ⟨s.heap.objs.size,[s.heap.objs.size,p],[s.heap.objs.size],(bs.map Value.bool).toArray.size,_,_,fun i=>(bs[i]?).getD true,rfl,Walks.list (A:=X.A.in1) (I.ok.hd hc) _ p (Nat.ne_of_lt hlt) (bs.map Value.bool).toArray,
  ⟨⟨_,Heap.get?_push_size _ rfl,rfl,rfl⟩,hl.push _⟩,fun i v s' Q' E' hP hQ=>?_,fun h' tk hk=>?_⟩
 ·have hP':(bs.map Value.bool)[i]?=some v:=by simpa using hP
  rw [List.getElem?_map] at hP'
  cases e:bs[i]? with
  | none=>rw [e] at hP'; cases hP'
  | some b=>
   rw [e] at hP'
   cases hP'
   simp only [e,Option.getD_some] at hQ
   exact wpAny_truthy_bool hQ
 ·have e:((List.range (bs.map Value.bool).toArray.size).all fun i=>(bs[i]?).getD true)=bs.all id:=by
   have:(bs.map Value.bool).toArray.size=bs.length:=by simp
   rw [this,Bool.eq_iff_iff,List.all_eq_true,List.all_eq_true]
   constructor
   ·intro h b hb
    obtain ⟨i,hi,rfl⟩:=List.getElem_of_mem hb
    have:=h i (List.mem_range.mpr hi)
    simpa [List.getElem?_eq_getElem hi] using this
   ·intro h i hi
    have hi':=List.mem_range.mp hi
    simp only [List.getElem?_eq_getElem hi',Option.getD_some]
    exact h _ (List.getElem_mem hi')
  rw [e]
  refine ⟨.bl _,H,I.kept fun b x e=>hk b x (fun hm=>?_) (Heap.get?_push_of_some _ e),rfl,q⟩
  rw [List.mem_singleton.mp hm] at e
  exact Nat.lt_irrefl _ (Heap.lt_size e)
end
end L2
namespace L2
open PySem PySem.Spec PyProof.Rows
mutual
noncomputable def RD (K:PySem.W.Frag) (H:Hp):PyData→V→Prop
 | .none,v=>v=.non
 | .bool b,v=>v=.bl b
 | .int i,v=>v=.int i
 | .str x,v=>v=.str x
 | .tuple ds,v=>∃a vs,v=.ref a∧gw K H a vs∧wU K H ds vs
 | .list ds,v=>∃a vs,v=.ref a∧cJ K H a vs∧wU K H ds vs
 | .dict _,_=>False
noncomputable def wU (K:PySem.W.Frag) (H:Hp):List PyData→List V→Prop
 | [],vs=>vs=[]
 | d::ds,vs=>∃v r,vs=v::r∧RD K H d v∧wU K H ds r
end
theorem gw.same {K:PySem.W.Frag} {H H':Hp} {a:Addr} {xs:List V} (e:∀b ys,H b=some (.tup ys)→H' b=some (.tup ys)) (ef:∀b o u,H b=some (.zP o u)→H' b=some (.zP o u)) (h:gw K H a xs):gw K H' a xs:=by
 rcases h with (h | ⟨o,h⟩) | h
 ·exact .inl (.inl (e _ _ h))
 ·exact .inl (.inr ⟨o,ef _ _ _ h⟩)
 ·exact .inr h
mutual
theorem RD.same {K:PySem.W.Frag} {H H':Hp} (e:aV H H'):∀{d:PyData} {v:V},RD K H d v→RD K H' d v
 | .none,_,h=>h
 | .bool _,_,h=>h
 | .int _,_,h=>h
 | .str _,_,h=>h
 | .tuple ds,v,h=>by
  obtain ⟨a,vs,e1,q,r⟩:=h
  exact ⟨a,vs,e1,q.same (fun b ys z=>e _ _ z) (fun b o u z=>e _ _ z),wU.same e r⟩
 | .list ds,v,h=>by
  obtain ⟨a,vs,e1,q,r⟩:=h
  exact ⟨a,vs,e1,e.seq q,wU.same e r⟩
theorem wU.same {K:PySem.W.Frag} {H H':Hp} (e:aV H H'):∀{ds:List PyData} {vs:List V},wU K H ds vs→wU K H' ds vs
 | [],_,h=>h
 | d::ds,vs,h=>by
  obtain ⟨v,r,e1,q,t⟩:=h
  exact ⟨v,r,e1,RD.same e q,wU.same e t⟩
end
mutual
theorem RD.nodict {K:PySem.W.Frag} {H:Hp}:∀{d:PyData} {v:V},RD K H d v→d.hasDict=false
 | .none,_,h=>by simp [PyData.hasDict]
 | .bool _,_,h=>by simp [PyData.hasDict]
 | .int _,_,h=>by simp [PyData.hasDict]
 | .str _,_,h=>by simp [PyData.hasDict]
 | .tuple ds,v,h=>by
  obtain ⟨a,vs,e1,q,r⟩:=h
  simpa [PyData.hasDict] using wU.nodict r
 | .list ds,v,h=>by
  obtain ⟨a,vs,e1,q,r⟩:=h
  simpa [PyData.hasDict] using wU.nodict r
theorem wU.nodict {K:PySem.W.Frag} {H:Hp}:∀{ds:List PyData} {vs:List V},wU K H ds vs→PyData.hasDictAll ds=false
 | [],_,h=>by simp [PyData.hasDictAll]
 | d::ds,vs,h=>by
  obtain ⟨v,r,e1,q,t⟩:=h
  simp [PyData.hasDictAll,RD.nodict q,wU.nodict t]
end
section
variable {X:Cx} {pins:List (Addr×Obj)} {σ:St} {H:Hp} {s:Shared}
mutual
theorem RD.reads (I:Inv X pins σ H s):∀{d:PyData} {v:V} {u:Value},RD X.K H d v→RelV v u→∃as,Reads s.heap u d as
 | .none,_,_,h,r=>by
  cases (show _=V.non from h)
  cases r
  exact ⟨_,.none⟩
 | .bool b,_,_,h,r=>by
  cases (show _=V.bl b from h)
  cases r
  exact ⟨_,.bool b⟩
 | .int i,_,_,h,r=>by
  cases (show _=V.int i from h)
  obtain ⟨t,rfl⟩:=r
  exact ⟨_,.int i t⟩
 | .str x,_,_,h,r=>by
  cases (show _=V.str x from h)
  obtain ⟨t,rfl⟩:=r
  exact ⟨_,.str x t⟩
 | .tuple ds,v,u,h,r=>by
  obtain ⟨a,vs,e1,q,t⟩:=h
  subst e1
  cases r
  obtain ⟨its,rv,⟨o,e,c,n,d⟩,_⟩:=I.tuple q
  obtain ⟨as,R⟩:=wU.reads I t rv
  exact ⟨_,.tuple e c d (by simpa using R)⟩
 | .list ds,v,u,h,r=>by
  obtain ⟨a,vs,e1,q,t⟩:=h
  subst e1
  cases r
  obtain ⟨its,rv,⟨o,n,e,c,_,d⟩,_⟩:=I.list q
  obtain ⟨as,R⟩:=wU.reads I t rv
  exact ⟨_,.list e c d (by simpa using R)⟩
theorem wU.reads (I:Inv X pins σ H s):∀{ds:List PyData} {vs:List V} {us:List Value},wU X.K H ds vs→Vals vs us→∃as,ReadsAll s.heap us ds as
 | [],_,_,h,r=>by
  cases (show _=[] from h)
  cases r
  exact ⟨_,.nil⟩
 | d::ds,vs,us,h,r=>by
  obtain ⟨v,rr,e1,q,t⟩:=h
  subst e1
  cases r with
  | cons r1 r2=>
   obtain ⟨as,R⟩:=RD.reads I q r1
   obtain ⟨bs,R2⟩:=wU.reads I t r2
   exact ⟨_,.cons R R2⟩
end
end
section
variable {X:Cx}
theorem wV (hg:X.A.guards=some []) (hu:X.A.units + 64 < cLine):cI X (.builtin "repr") (fun xs H Q=>∃v d,xs=[v]∧RD X.K H d v∧d.showable=true∧d.depth≤60∧d.shown.length≤sizeLine∧Q (.str d.shown) H):=by
 intro pins s σ H xs us Q I r h
 obtain ⟨v,d,rfl,hd,hs,abD,hz,q⟩:=h
 obtain ⟨u,rfl,ru⟩:=vals1 r
 cases d with
 | none=>
  cases (show v=V.non from hd)
  cases ru
  exact PySem.P.repr_of_none ⟨.str _,H,I.tok _,⟨_,rfl⟩,by simpa [PyData.shown] using q⟩
 | bool b=>
  cases (show v=V.bl b from hd)
  cases ru
  exact PySem.P.repr_of_bool ⟨.str _,H,I.tok _,⟨_,rfl⟩,by simpa [PyData.shown] using q⟩
 | int i=>
  cases (show v=V.int i from hd)
  obtain ⟨t,rfl⟩:=ru
  exact PySem.P.repr_of_int (by simpa [PyData.showable] using hs) ⟨.str _,H,I.tok _,⟨_,rfl⟩,by simpa [PyData.shown] using q⟩
 | str x=>
  cases (show v=V.str x from hd)
  obtain ⟨t,rfl⟩:=ru
  exact PySem.P.repr_of_str ⟨.str _,H,I.tok _,⟨_,rfl⟩,by simpa [PyData.shown] using q⟩ (by simpa [PyData.shown] using hz)
 | dict kvs=>exact hd.elim
 | tuple ds=>
  obtain ⟨as,R⟩:=hd.reads I ru
  obtain ⟨a,vs,e1,_,_⟩:=id hd
  subst e1
  cases ru
  exact repr_of_reads' R hs (PyData.noDict_hsm hd.nodict) hg (by omega) (fun _ _ e=>e) (fun h' u tk hk=>⟨.str _,H,I.kept hk,⟨_,rfl⟩,q⟩) hz
 | list ds=>
  obtain ⟨as,R⟩:=hd.reads I ru
  obtain ⟨a,vs,e1,_,_⟩:=id hd
  subst e1
  cases ru
  exact repr_of_reads' R hs (PyData.noDict_hsm hd.nodict) hg (by omega) (fun _ _ e=>e) (fun h' u tk hk=>⟨.str _,H,I.kept hk,⟨_,rfl⟩,q⟩) hz
end
end L2
namespace L2
open PySem PySem.Spec PyProof.Rows
noncomputable def Kw (yI:Scope) (N0 NT NF:List Str) (js:List Nat) (scope:Scope):Bool:=
 scope.kind==.function&&scope.names.all (fun y=>!(y.2==.local) || scope.names.lookup y.1==some .local)&&scope.names.all (fun y=>!(y.2==.cell))&&
  scope.names.all (fun y=>!(y.2==.free) || (yI.names.lookup y.1==some .cell || yI.names.lookup y.1==some .free))&&js.length==NF.length&&
  (js.zip NF).all (fun p=>N0[p.1]?==some p.2&&scope.names.lookup p.2==some .free)&&NT.all (fun x=>scope.names.lookup x==some .local)&&decide (NT++NF).Nodup
theorem oV.ok {X:Cx} {yI:Scope} {N0 NT NF:List Str} {js:List Nat} {scope:Scope} (h:Kw yI N0 NT NF js scope=true) (ho:X.env.scope=yI) (hN:X.N=N0):jt X NT NF js scope:=by
 unfold Kw at h
 simp only [Bool.and_eq_true] at h
 obtain ⟨⟨⟨⟨⟨⟨⟨h1,h2⟩,h3⟩,h4⟩,h5⟩,h6⟩,h7⟩,h8⟩:=h
 refine ⟨eq_of_beq h1,fun y hy e=>?_,fun y hy e=>?_,fun y hy e=>?_,by simpa using h5,fun k j x ej ex=>?_,fun x hx=>?_,of_decide_eq_true h8⟩
 ·have:=List.all_eq_true.mp h2 y hy
  rw [e] at this
  simpa using this
 ·have:=List.all_eq_true.mp h3 y hy
  rw [e] at this
  simp at this
 ·have:=List.all_eq_true.mp h4 y hy
  rw [e] at this
  rw [ho]
  simpa using this
 ·have hm:(j,x)∈js.zip NF:=by
   have:(js.zip NF)[k]?=some (j,x):=by
    rw [List.getElem?_zip_eq_some]
    exact ⟨ej,ex⟩
   exact List.mem_of_getElem? this
  have:=List.all_eq_true.mp h6 _ hm
  simp only [Bool.and_eq_true] at this
  rw [hN]
  exact ⟨eq_of_beq this.1,eq_of_beq this.2⟩
 ·exact eq_of_beq (List.all_eq_true.mp h7 x hx)
structure jc (P:Program) (w:World) (K:PySem.W.Frag) (mg:Str→Option Value) (base:Heap) (x:Str) (k:Nat) (ps:List Str) (sp:Sp):Prop where
 ex:∃(f:Addr) (fd:FuncData),mg x=some (.ref f)∧PySem.W.keepIn K (.ref f)=true∧Binds K fd ps []∧dD P w K mg base rD k f fd ps sp
section
variable {X:Cx} {x:Str} {k:Nat} {ps:List Str} {sp:Sp} {p pos:Pos} {e:Expr} {es:List Expr} {t:TA}
theorem Wo (F:jc X.prog X.w X.K X.mg X.base x k ps sp) (hr:fB k X.A) (hg:Gl X x) (ha:PA X (e::es) t) (hdb:(x==("__debug__":Str))=false:=by decide)
  (he:starEach (e::es) X.env=(false,eval e X.env)::starEach es X.env:=by rfl) (hpl:(backTo pos (starEach es X.env)).any (·.1)=false:=by rfl):
  PE X (.Call (.Name x p) (e::es) [] pos) (J7 sp [] E0 t):=by
 obtain ⟨f,fd,h1,h2,h3,h4⟩:=F.ex
 exact Ot h4 hr hg h1 h2 h3 .nil Wm ha hdb he hpl
theorem Aa:cI X (.builtin "isinstance") (fun xs H Q=>∃x n t b,xs=[x,.ty n]∧kE X.K H x t∧PySem.W.kitOne X.K t (.type n)=some b∧Q (.bl b) H):=by
 intro pins s σ H xs us Q I r h
 obtain ⟨x,n,t,b,rfl,ty,e,q⟩:=h
 obtain ⟨u,u2,rfl,r1,r2⟩:=vals2 r
 cases r2
 exact HQ I r1 ty e fun tk=>⟨.bl b,H,I.tok tk,rfl,q⟩
end
structure Fx (K:PySem.W.Frag) (T:mW) (J:It) (n:Nat) (vs:Nat→List V) (G:Hp→Prop):Prop where
 go:∀i H,i < n→G H→J.go i H
 Rk:∀i H x H',i < n→G H→J.Rk i H x H'→H'=H∧Rw K T x H (vs i)
 stop:∀H,G H→J.stop n H
section
variable {K:PySem.W.Frag} {T:mW} {J:It} {n:Nat} {vs:Nat→List V} {G:Hp→Prop} {ts:TT} {te:TE} {fs:St} {H1:Hp} {D:Addr} {done:Hp→Prop}
end
end L2
namespace L2
open PySem PySem.Spec PyProof.Rows
theorem O8 {n m:Nat} (h:n≤m) (hm:m≤16777216:=by decide):n≤sizeLine:=by rw [sizeLine_eq]; omega
section
variable {K:PySem.W.Frag} {T:mW} {J:It} {n:Nat} {vs:Nat→List V} {G:Hp→Prop} {te:TE} {fs:St} {H1:Hp} {D:Addr} {done:Hp→Prop}
end
section
variable {X:Cx}
theorem Rq.r {id:String} {r:V→List V→Hp→VK→Prop} (h:Rq X id r):T3 X id r:=h
end
noncomputable def Ext (p:Addr) (H H':Hp):Prop:=∀b o,H b=some o→b≠p→H' b=some o
theorem Ext.refl (p:Addr) (H:Hp):Ext p H H:=fun _ _ h _=>h
theorem Ext.trans {p:Addr} {H H1 H2:Hp} (a:Ext p H H1) (b:Ext p H1 H2):Ext p H H2:=fun c o h hc=>b c o (a c o h hc) hc
theorem aV.ext {p:Addr} {H H':Hp} (s:aV H H'):Ext p H H':=fun b o h _=>s b o h
theorem Ext.upd {p:Addr} {H:Hp} {o:HO}:Ext p H (upd H p o):=fun b u h hb=>by rw [aO hb]; exact h
theorem aV.upd {p:Addr} {H:Hp} {o:HO} (h:H p=none):aV H (L2.upd H p o):=fun b u e=>by rw [aO (bC e h)]; exact e
end L2
namespace L2
open PySem PySem.Spec PyProof.Rows
noncomputable def Uh (D:Addr) (tk tv:TE):TM:=fun σ H Q=>tk σ H fun y H1=>tv σ H1 fun z H2=>∃kvs k,H2 D=some (.dK kvs)∧y=kV k∧kvs.length < sizeLine∧Q (upd H2 D (.dK (putK kvs k z)))
theorem Ui {X:Cx} {D:Addr} {kx vx:Expr} {tk tv:TE} (hu:X.A.units + 1 < cLine) (hk:PE X kx tk) (hv:PE X vx tv):PM X (do
      let kv ←eval kx X.env
      let vv ←holding [kv] (eval vx X.env)
      standAt { kx.pos with endLine:=vx.pos.endLine,endCol:=vx.pos.endCol }
      holding [kv,vv] (dictSet D kv vv)) (Uh D tk tv):=by
 intro pins s σ H Q I h
 refine wpAny_bind (cF (hk pins s σ H _ I h) fun kv s1 aR=>?_)
 obtain ⟨y,H1,I1,r1,q1⟩:=aR
 refine wpAny_bind (wpAny_holding (cF (hv pins s1 σ H1 _ I1 q1) fun vv s2 aR=>?_))
 obtain ⟨z,H2,I2,r2,kvs,k,hD,ey,hl,q2⟩:=aR
 subst ey
 refine wpAny_bind (wpAny_standAt (wpAny_holding ?_))
 obtain ⟨z1,hd,vs,rel,dd⟩:=Ru I2.hok hD
 have hz:vs.length≤sizeLine:=by rw [←rel.length]; exact z1
 have hl2:(putK kvs k z).length≤sizeLine:=by have:=kJ kvs k z; omega
 refine wpAny_dictSet_pairs (hsz:=hz) (uc r1) dd fun h' Ua hs=>⟨_,?_,q2⟩
 have he:∃q,h'.get? D=some q:=let ⟨q,_,_,hq,_⟩:=Ua; ⟨q,hq⟩
 exact mD I2 (by rw [hD]; exact True.intro) hs he (Dd hl2 hd (rel.put k r2) Ua)
section
variable {X:Cx} {NT NF:List Str} {js:List Nat} {elt kx vx tg iter e:Expr} {ifs:List Expr} {T:mW} {wi:TI} {ts:Bk→TT} {te tk' tv:Bk→TE} {scope:Scope} {pos:Pos}
noncomputable def tDC (K:PySem.W.Frag) (wi:TI) (T:mW) (ts:Bk→TT) (tk' tv:Bk→TE) (js:List Nat):TE:=fun σ H Q=>wi σ H fun J H1=>∀D,H1 D=none→∀b,Dg K T (ts b) (Uh D (tk' b) (tv b)) (frees js σ) J (upd H1 D (.dK [])) (Q (.ref D))
theorem Uj {pins:List (Addr×Obj)} {σ:St} {s2:Shared} {H2:Hp} {cl:List (Str×Addr)} {it:Addr} {fp:List Addr} {tn:Nat→Heap→Prop} {J:It} {Q:Hp→Prop} {RR:Value→Addr→Result→Shared→Prop} {E:Value→Shared→Prop}
  (B:jt X NT NF js scope) (tk:oU tg NT T) (hc:X.calm=true) (hu:X.A.units + 1 < cLine)
  (hin:∀b,Ck (X.bk (NT++NF) scope b) ifs (ts b)∧PE (X.bk (NT++NF) scope b) kx (tk' b)∧PE (X.bk (NT++NF) scope b) vx (tv b))
  (q2:∀n c,cl.lookup n=some c→X.env.cells.lookup n=some c) (q3:∀y∈scope.names,y.2=.free→∃c,cl.lookup y.1=some c)
  (I2:Inv X pins σ H2 s2) (TT:Turn X.prog X.w X.K tg J fp it tn) (st2:tn 0 s2.heap) (f2:∀b∈fp,iu X pins H2 b)
  (q:∀b,Dg X.K T (ts b) (Uh s2.heap.objs.size (tk' b) (tv b)) (frees js σ) J (upd H2 s2.heap.objs.size (.dK [])) Q)
  (hR:∀C H' s' m,Inv X pins σ H' s'→iu X pins H' C→s'.heap.Ns C m→Q H'→RR (.ref s2.heap.objs.size) C (.ok .next) s'):
  wpAny (model X.prog X.w) X.A (newDict) (fun acc s₃=>wpAny (model X.prog X.w) X.A (newFunctionEnv scope X.env.globals cl [] X.env.qual none .none (some X.env)) (fun cenv s₄=>
   codeAny (model X.prog X.w) X.A (.compStart (.DictComp kx vx [⟨tg,iter,ifs,0⟩] scope pos) 0 (.ref it) acc { cenv with scope:=relabel scope X.env }) (RR acc cenv.locals) s₄) E s₃) E s2:=by
 refine wpAny_newObj_type ?_
 have hD:H2 s2.heap.objs.size=none:=I2.hok.fresh (Nat.le_refl _)
 have I3:Inv X pins σ (upd H2 s2.heap.objs.size (.dK [])) { s2 with heap:=s2.heap.push { cls:=.type "dict",dict:=none,data:=.dict #[] } }:=
  I2.laid (t':=s2.toks) (fun b o e=>Heap.get?_push_of_some _ e) (Nat.le_refl _) (z6 s2.heap I2.big)
 have hsz:(s2.heap.push { cls:=.type "dict",dict:=none,data:=.dict #[] }).objs.size=s2.heap.objs.size + 1:=Heap.size_push ..
 refine wpAny_newFunctionEnv B.cell (by intro y hy; simp at hy) (fun h₁ hns₁ hsb₁=>?_) B.kind
 have NP:∀b∈fp,b < s2.heap.objs.size:=fun b hb=>by
  obtain ⟨o,e,_⟩:=TT.obj 0 _ st2 b hb
  exact Heap.lt_size e
 have f3:∀b∈fp,iu X pins (upd H2 s2.heap.objs.size (.dK [])) b:=fun b hb=>⟨by rw [aO (Nat.ne_of_lt (NP b hb))]; exact (f2 b hb).1,(f2 b hb).2⟩
 have keep:∀b o,(s2.heap.push { cls:=.type "dict",dict:=none,data:=.dict #[] }).get? b=some o→h₁.get? b=some o:=fun b o e=>
  hsb₁.extBut b o (Nat.ne_of_lt (Heap.lt_size e)) (Heap.get?_push_of_some _ e)
 have Rx:∀b∈fp,b < (s2.heap.push { cls:=.type "dict",dict:=none,data:=.dict #[] }).objs.size:=fun b hb=>by have:=NP b hb; rw [hsz]; exact Nat.lt_succ_of_lt this
 have I4:=I3.blk (s1:={ s2 with heap:=h₁,toks:=s2.toks + ([]:List (Str×Value)).length }) B q2 q3 f3 Rx hns₁ keep rfl I2.bare
 have Ry:tn 0 h₁:=TT.keep 0 _ _ st2 fun b _ o e=>keep b o (Heap.get?_push_of_some _ e)
 obtain ⟨i1,i2,i3⟩:=hin ⟨cl,(s2.heap.push { cls:=.type "dict",dict:=none,data:=.dict #[] }).objs.size,{ s2 with heap:=s2.heap.push { cls:=.type "dict",dict:=none,data:=.dict #[] } },upd H2 s2.heap.objs.size (.dK []),fp⟩
 have loop:codeAny (model X.prog X.w) X.A (.compLoop (.DictComp kx vx [⟨tg,iter,ifs,0⟩] scope pos) 0 (.ref it) (.ref s2.heap.objs.size) (compEnvC scope cl (s2.heap.push { cls:=.type "dict",dict:=none,data:=.dict #[] }).objs.size X.env))
   (RR (.ref s2.heap.objs.size) (s2.heap.push { cls:=.type "dict",dict:=none,data:=.dict #[] }).objs.size) { s2 with heap:=h₁,toks:=s2.toks + ([]:List (Str×Value)).length }:=by
  refine ug (X:=X.blk (NT++NF) scope cl (s2.heap.push { cls:=.type "dict",dict:=none,data:=.dict #[] }).objs.size { s2 with heap:=s2.heap.push { cls:=.type "dict",dict:=none,data:=.dict #[] } } (upd H2 s2.heap.objs.size (.dK [])) fp)
   (T:=T) (fs:=frees js σ) (done:=Q) rfl (Df kx vx tg iter ifs scope pos _ _ _) rfl rfl rfl tk rfl B.nd hc (fun x hx=>lookup_relabel_local (B.tg x hx)) i1 (Ui hu i2 i3) TT (fun b hb=>?_) I4 Ry (q _) fun H' s' σ' J' qd=>?_
  ·exact ⟨(f3 b hb).1,Nat.ne_of_lt (Rx b hb),fun hb2=>by
    rcases List.mem_cons.mp (I3.qg b hb2) with z | z
    ·exact (f3 b hb).2.1 z
    ·exact (f3 b hb).2.2.1 z,.inl hb,fun x c e=>(f3 b hb).2.2.2.2.1 x c (q2 x c e),fun p hp=>(nomatch (show p∈([]:List (Addr×Obj)) from hp))⟩
  ·obtain ⟨m,hn,_⟩:=J'.loc
   exact hR _ H' s' m (I3.Km f3 J') (I3.yr (Nat.le_refl _) J'.free) hn qd
 exact codeAny_compStart_dict loop (TT.self _ 0 _ _ _ Ry loop)
theorem Ky {i:Nat} {y:Str} {pos' spos:Pos} (B:jt X NT NF js scope) (tk:oU tg NT T) (hc:X.calm=true) (hu:X.A.units + 1 < cLine) (hi:PI X tg iter wi)
  (hin:∀b,Ck (X.bk (NT++NF) scope b) ifs (ts b)∧PE (X.bk (NT++NF) scope b) kx (tk' b)∧PE (X.bk (NT++NF) scope b) vx (tv b))
  (hsw:swapsWith (.DictComp kx vx [⟨tg,iter,ifs,0⟩] scope pos) (some (.Name y pos')) spos.line X.env=pure true)
  (hN:X.N.Nodup) (hI:X.N[i]?=some y) (hy:X.env.scope.names.lookup y=some .local)
  (hs:∀x,foldedSetIterable iter X.env x=pure x:=by intro _; rfl):PS X (.Assign [.Name y pos'] (.DictComp kx vx [⟨tg,iter,ifs,0⟩] scope pos) spos) (HB (tDC X.K wi T ts tk' tv js) (rA i)):=by
 intro pins s σ H D I h
 obtain ⟨cl,hclos,q2,q3⟩:=jB (env:=X.env) (scope:=scope) fun y hy e=>I.ok.has y.1 (B.free y hy e)
 rw [exec_Assign_Name_used _ _ _ _ hsw]
 refine wpAny_bind (wpAny_standAt (wpAny_bind ?_))
 show wpAny _ X.A (do let _ ←comprehension (.DictComp kx vx [⟨tg,iter,ifs,0⟩] scope pos) scope X.env _ (newDict) false (eval iter X.env) (some (assign (.Name y pos') X.env))) _ _ s
 refine wpAny_bind (wpAny_mono (wpAny_comprehension_free (use:=some (assign (.Name y pos') X.env)) (Q:=fun _ s'=>SP X pins D .next s') rfl hs hclos B.kind B.names
  (cF (hi pins s σ H _ I h) fun v s1 h1=>cF h1 fun itv s2 ⟨it,fp,tn,J,H2,e,I2,TT,st2,f2,q⟩=>?_)) (fun _ s' hq=>wpAny_pure (wpAny_pure hq)) fun _ _ e=>e)
 subst e
 refine Uj (hu:=hu) (Q:=fun H'=>D.nx (σ.set i (some (.ref s2.heap.objs.size))) H') (RR:=fun acc C=>compPost (model X.prog X.w) X.A X.xe (some (assign (.Name y pos') X.env)) (fun _ s'=>SP X pins D .next s') acc C) B tk hc (hin:=hin) q2 q3 I2 TT st2 f2 (q _ (I2.hok.fresh (Nat.le_refl _))) fun C H' s' m I' fC hn qd=>?_
 show wpAny _ X.A (assign (.Name y pos') X.env (.ref s2.heap.objs.size)) _ _ _
 refine wpAny_assign_Name (qi I' hN hI (.inl hy) (v:=.ref s2.heap.objs.size) rfl (fun s3 I3 aR=>?_) (.inr hy))
 obtain ⟨a,sb,ha⟩:=aR
 have Y4:C≠a:=by
  rcases ha with z | z
  ·rw [z]; exact fC.2.1
  ·exact fun w=>fC.2.2.2.2.1 y a z w.symm
 refine ⟨m,hn.sameBut sb Y4,fun h' sb'=>⟨_,H',?_,qd⟩⟩
 exact I3.turned (t':=s3.toks) (fun b o hb e=>(sb'.2 b hb).trans e) fC.1 fC.2.1 fC.2.2.2.1 fC.2.2.2.2.1 fC.2.2.2.2.2
end
end L2
namespace L2
open PySem PySem.Spec PyProof.Rows
section
variable {X:Cx}
theorem O9 {K:PySem.W.Frag} {t:Value} {c d:Value} {p q:Bool} (e1:PySem.W.kitOne K t c=some p) (e2:PySem.W.kitOne K t d=some q):PySem.W.kitAny K t [c,d]=some (p || q):=by
 unfold PySem.W.kitAny
 rw [e1]
 cases p with
 | true=>rfl
 | false=>
  unfold PySem.W.kitAny
  rw [e2]
  cases q with
  | true=>rfl
  | false=>rfl
end
structure Fy (K:PySem.W.Frag) (T:mW) (J:It) (n:Nat) (vs:Nat→List V) (G:Hp→Prop):Prop where
 go:∀i H,i < n→G H→J.go i H
 Rk:∀i H x H',i < n→G H→J.Rk i H x H'→aV H H'∧Rw K T x H' (vs i)
 stop:∀H,G H→J.stop n H
section
variable {K:PySem.W.Frag} {T:mW} {J:It} {n:Nat} {vs:Nat→List V} {G:Hp→Prop} {ts:TT} {te:TE} {fs:St} {H1:Hp} {D:Addr} {done:Hp→Prop}
end
theorem Inv.Ft {X:Cx} {pins:List (Addr×Obj)} {σ:St} {H H':Hp} {s:Shared} {h':Heap} {t':Nat} {ch:List Addr} (I:Inv X pins σ H s) (k:∀b o,b∉ch→s.heap.get? b=some o→h'.get? b=some o) (hf:∀b∈ch,iu X pins H b)
  (hs:aV H H') (hfr:∀b o,s.heap.get? b=some o→H b=none→H' b=none) (hn:∀b u,H' b=some u→H b=some u∨bV X.prog X.w H' h' b u):Inv X pins σ H' { s with heap:=h',toks:=t' }:=by
 have VD:∀b u,H b=some u→b∉ch:=fun b u e z=>by rw [(hf b z).1] at e; cases e
 refine I.step (g':=s.gens) (d':=s.drawn) (ch:=ch) (fun b hb=>⟨(hf b hb).2.2.2.1,(hf b hb).2.1,(hf b hb).2.2.2.2.1,(hf b hb).2.2.2.2.2⟩) (fun b o _ _ hc e _=>k b o hc e) (fun b o _ _ hc e _=>⟨o.slots,k b o hc e⟩) (fun b o _ e n=>hfr b o e n)
  (fun b o hc e=>⟨o,k b o hc e⟩) (fun _ _ e=>hs _ _ e) (fun _ _ _ e=>hs _ _ e) (fun b ps e=>⟨#[],by rw [hs _ _ e]; simp⟩) (fun m hm=>?_) (fun b u e=>?_) I.bare
 ·obtain ⟨o,es,ep,ho,r⟩:=hm
  exact ⟨o,es,ep,k _ o (fun z=>(hf _ z).2.1 rfl) ho,r⟩
 ·rcases hn b u e with z | z
  ·refine (I.hok b u z).stay (fun c v hc q=>k c v ?_ q) (fun _ q=>hs _ _ q) fun _ _ q=>hs _ _ q
   rcases hc with y | y
   ·rw [y]; exact VD b u z
   ·exact VD c _ y
  ·exact z
noncomputable def Y7 (K:PySem.W.Frag) (a b:Addr):It:=⟨fun i H=>∃xs ys,cJ K H a xs∧cJ K H b ys∧i < min xs.length ys.length,
 fun i H v H'=>∃p x y,H p=none∧v=.ref p∧H'=upd H p (.tup [x,y])∧∀xs ys,cJ K H a xs→cJ K H b ys→xs[i]?=some x∧ys[i]?=some y,
 fun i H=>∃xs ys,cJ K H a xs∧cJ K H b ys∧i=min xs.length ys.length⟩
theorem Kz {P:Program} {w:World} {K:PySem.W.Frag} {es:List Expr} {k:Nat} {ps:Pos} {a b z TI TO i1 i2:Addr} (D:ZipApart z TI TO i1 i2 a b):
  Turn P w K (.Tuple es k ps) (Y7 K a b) [z,TI,TO,i1,i2] z (fun i h=>IsZip h z TI TO .none∧IsPair h TI (.ref i1) (.ref i2)∧(∃c d,IsPair h TO c d)∧h.IsListIter i1 a i∧h.IsListIter i2 b i) where
 mem:=by simp
 obj:=fun i h st c hc=>by
  obtain ⟨h1,h2,⟨_,_,h3⟩,⟨o4,e4,_,d4⟩,⟨o5,e5,_,d5⟩⟩:=st
  simp only [List.mem_cons,List.not_mem_nil,or_false] at hc
  rcases hc with rfl | rfl | rfl | rfl | rfl
  ·exact ⟨_,h1,fun v q=>by cases q⟩
  ·exact ⟨_,h2,fun v q=>by cases q⟩
  ·exact ⟨_,h3,fun v q=>by cases q⟩
  ·exact ⟨_,e4,fun v q=>by rw [d4] at q; cases q⟩
  ·exact ⟨_,e5,fun v q=>by rw [d5] at q; cases q⟩
 keep:=fun i h h' st kk=>by
  obtain ⟨h1,h2,⟨c,d,h3⟩,h4,h5⟩:=st
  exact ⟨kk z (by simp) _ h1,kk TI (by simp) _ h2,⟨c,d,kk TO (by simp) _ h3⟩,h4.at fun o e=>kk i1 (by simp) o e,h5.at fun o e=>kk i2 (by simp) o e⟩
 item:=by
  intro X hP hw hK hc i pins s σ H E I hf st hg
  subst hP hw hK
  obtain ⟨xs,ys,ha,hb,hi⟩:=hg
  obtain ⟨its,r1,p1,_⟩:=I.list ha
  obtain ⟨its2,r2,p2,_⟩:=I.list hb
  have l1:=r1.length
  have l2:=r2.length
  have W:=WalksT.zip2 (prog:=X.prog) (w:=X.w) (A:=X.A) (I.ok.hd hc) z TI TO i1 i2 a b D its.toArray its2.toArray
  obtain ⟨s1,s2,s3,s4,s5⟩:=st
  refine W.item i s _ E (by simp; omega) ⟨s1,s2,s3,s4,s5,p1.isList,p2.isList⟩ fun T vals h' tk hv hT ht hm kk=>?_
  obtain ⟨x,y,hx,hy,rfl⟩:=hv
  refine ⟨_,rfl,W.go es k ps i T _ _ E hm fun h2 st2 Rz=>?_⟩
  have gx:xs[i]?=some (xs.getD i .non):=by
   have:i < xs.length:=by omega
   simp [List.getD,this]
  have gy:ys[i]?=some (ys.getD i .non):=by
   have:i < ys.length:=by omega
   simp [List.getD,this]
  obtain ⟨u1,hu1,q1⟩:=r1.get gx
  obtain ⟨u2,hu2,q2⟩:=r2.get gy
  have ex:u1=x:=by
   have:its[i]?=some x:=by simpa using hx
   rw [hu1] at this
   exact Option.some.inj this
  have ey:u2=y:=by
   have:its2[i]?=some y:=by simpa using hy
   rw [hu2] at this
   exact Option.some.inj this
  subst ex ey
  have wf:∀c,c∈[z,TO,i1,i2]→iu X pins H c:=fun c hc=>hf c (by simp at hc ⊢; rcases hc with rfl | rfl | rfl | rfl <;> simp)
  have hTn:H T=none:=I.hok.fresh hT
  have nT:T∉[z,TO,i1,i2]:=W.apart i T _ hm
  have kT:h2.get? T=h'.get? T:=by
   obtain ⟨o,e,_⟩:=id ht
   rw [Rz T o nT e]
   exact e.symm
  obtain ⟨oT,eT,cT,nT',dT⟩:=id ht
  refine ⟨.ref T,upd H T (.tup [xs.getD i .non,ys.getD i .non]),I.Ft (fun c o hc e=>Rz c o hc (kk c o hc e)) wf (aV.upd hTn) (fun c o e n=>?_) (fun c u e=>?_),rfl,⟨T,_,_,hTn,rfl,rfl,fun xs' ys' h1 h2=>?_⟩,?_,fun c hc=>?_⟩
  ·rw [aO]
   ·exact n
   ·intro z
    subst z
    exact absurd (Heap.lt_size e) (Nat.not_lt.mpr hT)
  ·by_cases hcT:c=T
   ·subst hcT
    rw [aK] at e
    cases e
    refine .inr ⟨by show 2≤sizeLine; decide,[u1,u2],.cons q1 (.cons q2 .nil),oT,kT.trans eT,cT,nT',by simpa using dT⟩
   ·rw [aO hcT] at e
    exact .inl e
  ·rw [I.tY h1 ha,I.tY h2 hb]
   exact ⟨gx,gy⟩
  ·exact ⟨st2.1,st2.2.1,st2.2.2.1,st2.2.2.2.1,st2.2.2.2.2.1⟩
  ·rw [aO]
   ·exact (hf c hc).1
   ·intro z
    subst z
    obtain ⟨o,e,_⟩:∃o,s.heap.get? c=some o∧True:=by
     simp only [List.mem_cons,List.not_mem_nil,or_false] at hc
     obtain ⟨c1,d1,s3⟩:=s3
     obtain ⟨o4,e4,_⟩:=s4
     obtain ⟨o5,e5,_⟩:=s5
     rcases hc with rfl | rfl | rfl | rfl | rfl
     ·exact ⟨_,s1,trivial⟩
     ·exact ⟨_,s2,trivial⟩
     ·exact ⟨_,s3,trivial⟩
     ·exact ⟨_,e4,trivial⟩
     ·exact ⟨_,e5,trivial⟩
    exact absurd (Heap.lt_size e) (Nat.not_lt.mpr hT)
 done:=by
  intro X hP hw hK hc i pins s σ H E I hf st hg
  subst hP hw hK
  obtain ⟨xs,ys,ha,hb,hi⟩:=hg
  obtain ⟨its,r1,p1,_⟩:=I.list ha
  obtain ⟨its2,r2,p2,_⟩:=I.list hb
  have l1:=r1.length
  have l2:=r2.length
  have W:=WalksT.zip2 (prog:=X.prog) (w:=X.w) (A:=X.A) (I.ok.hd hc) z TI TO i1 i2 a b D its.toArray its2.toArray
  obtain ⟨s1,s2,s3,s4,s5⟩:=st
  have e:i=min its.toArray.size its2.toArray.size:=by simp; omega
  subst e
  refine W.done s _ E ⟨s1,s2,s3,s4,s5,p1.isList,p2.isList⟩ fun h' tk kk=>⟨rfl,?_⟩
  have wf:∀c,c∈[z,TO,i1,i2]→iu X pins H c:=fun c hc=>hf c (by simp at hc ⊢; rcases hc with rfl | rfl | rfl | rfl <;> simp)
  exact I.Ft kk wf (aV.refl H) (fun _ _ _ n=>n) fun _ _ e=>.inl e
 self:=fun _ _ _ _ _ st h=>wpAny_pyIter_zip st.1 h
noncomputable def Y8 (K:PySem.W.Frag) (t:TA):TI:=fun σ H R=>t σ H fun vs H1=>∃a b xs ys,vs=[.ref a,.ref b]∧cJ K H1 a xs∧cJ K H1 b ys∧R (Y7 K a b) H1
theorem Uk {X:Cx} {es:List Expr} {k:Nat} {ps:Pos} {x y:Expr} {t:TA} {p pos:Pos} (hg:Gl X "zip") (hm:X.mg "zip"=none) (ha:PA X [x,y] t) (hs:starEach [x,y] X.env=[(false,eval x X.env),(false,eval y X.env)]:=by rfl) (hs2:starEach [y] X.env=[(false,eval y X.env)]:=by rfl):
  PI X (.Tuple es k ps) (.Call (.Name "zip" p) [x,y] [] pos) (Y8 X.K t):=by
 intro pins s σ H R I h
 refine Call_ (gP I hg hm PyProof.Rows.boot_zip (PyProof.Rows.callWith_type1 (cF (ha pos pins s σ H _ I h) fun us s1 aR=>?_) (by rw [hs,hs2]) (by rw [hs2]; rfl)))
 obtain ⟨vs,H1,I1,r1,q1⟩:=aR
 obtain ⟨a,b,xs,ys,e,h1,h2,q⟩:=q1
 subst e
 cases r1 with
 | cons r rr=>
  cases rr with
  | cons r' rr=>
   cases rr
   cases r
   cases r'
   obtain ⟨its,v1,p1,_⟩:=I1.list h1
   obtain ⟨its2,v2,p2,_⟩:=I1.list h2
   have lt1:a < s1.heap.objs.size:=by obtain ⟨_,e,_⟩:=p1.isList; exact Heap.lt_size e
   have NP:b < s1.heap.objs.size:=by obtain ⟨_,e,_⟩:=p2.isList; exact Heap.lt_size e
   refine call_zip_2 p1.isList p2.isList fun h' g1 g2 g3 g4 g5 hsz kk=>?_
   refine wpAny_pyIter_zip g1 ?_
   have I2:Inv X pins σ H1 { s1 with heap:=h' }:=I1.kept (t':=s1.toks) kk
   refine ⟨s1.heap.objs.size + 4,[s1.heap.objs.size + 4,s1.heap.objs.size + 2,s1.heap.objs.size + 3,s1.heap.objs.size,s1.heap.objs.size + 1],_,_,H1,rfl,I2,Kz (zipApart_new lt1 NP),⟨g1,g2,⟨_,_,g3⟩,g4,g5⟩,fun c hc=>?_,q⟩
   refine I1.yr ?_ (I1.hok.fresh ?_)
   all_goals
    simp only [List.mem_cons,List.not_mem_nil,or_false] at hc
    rcases hc with rfl | rfl | rfl | rfl | rfl <;> omega
theorem Dh {X:Cx} {pins:List (Addr×Obj)} {σ:St} {H:Hp} {s:Shared} {A:Around} {E:Value→Shared→Prop} {Q:Value→Shared→Prop} {b:Bool} {c:Addr} {its:List Value} {x:V} {u t:Value} (I:Inv X pins σ H s) (rx:RelV x u) (ty:kE X.K H x t) (e:PySem.W.kitAny X.K t its=some b)
  (hc:s.heap.IsTuple c its.toArray) (h:∀tk,Q (.bool b) { s with toks:=tk }):wpAny (model X.prog X.w) A (call (.builtin "isinstance") [u,.ref c]) Q E s:=by
 obtain ⟨⟨oc,od,oda,osl⟩,g1,g2,g3,g4⟩:=hc
 simp only at g2 g4
 subst g2 g4
 cases ty with
 | non=>cases (show u=Value.none from rx); exact PySem.W.kia_tup PySem.W.kitx_none I.p6 True.intro g1 e (fun z=>nomatch z) h
 | bl y=>cases (show u=Value.bool y from rx); exact PySem.W.kia_tup PySem.W.kitx_bool I.p6 True.intro g1 e (fun z=>nomatch z) h
 | int i=>obtain ⟨t,q⟩:=(show ∃t,u=Value.int i t from rx); cases q; exact PySem.W.kia_tup PySem.W.kitx_int I.p6 True.intro g1 e (fun z=>nomatch z) h
 | str y=>obtain ⟨t,q⟩:=(show ∃t,u=Value.str y t from rx); cases q; exact PySem.W.kia_tup PySem.W.kitx_str I.p6 True.intro g1 e (fun z=>nomatch z) h
 | flt y=>obtain ⟨t,q⟩:=(show ∃t,u=Value.float y t from rx); cases q; exact PySem.W.kia_tup PySem.W.kitx_float I.p6 True.intro g1 e (fun z=>nomatch z) h
 | @lst a xs ea=>
  cases (show u=Value.ref a from rx)
  obtain ⟨_,_,n,_,h1⟩:=(show bV X.prog X.w H s.heap a (.lst xs) from I.hok a _ ea)
  exact PySem.W.kia_tup PySem.W.kitx_list I.p6 ⟨_,h1,rfl⟩ g1 e (fun z=>nomatch z) h
 | @zP a ob xs ea=>
  cases (show u=Value.ref a from rx)
  obtain ⟨_,_,_,n,_,h1⟩:=(show bV X.prog X.w H s.heap a (.zP ob (.lst xs)) from I.hok a _ ea)
  exact PySem.W.kia_tup PySem.W.kitx_list I.p6 ⟨_,h1,rfl⟩ g1 e (fun z=>nomatch z) h
 | @tup a xs ea=>
  cases (show u=Value.ref a from rx)
  obtain ⟨_,_,_,p⟩:=(show bV X.prog X.w H s.heap a (.tup xs) from I.hok a _ ea)
  obtain ⟨o,h1,h2,_⟩:=p
  exact PySem.W.kia_tup PySem.W.kitx_tuple I.p6 ⟨o,h1,h2⟩ g1 e (fun z=>nomatch z) h
 | @dK a kvs ea=>
  cases (show u=Value.ref a from rx)
  obtain ⟨_,_,vs,_,p⟩:=(show bV X.prog X.w H s.heap a (.dK kvs) from I.hok a _ ea)
  obtain ⟨o,es,ep,h1,h2,_⟩:=p
  exact PySem.W.kia_tup PySem.W.kitx_dict I.p6 ⟨o,h1,h2.1⟩ g1 e (fun z=>nomatch z) h
 | @dT a kvs ea=>
  cases (show u=Value.ref a from rx)
  obtain ⟨_,_,xs,_,o,es,ep,h1,h2,_⟩:=(show bV X.prog X.w H s.heap a (.dT kvs) from I.hok a _ ea)
  exact PySem.W.kia_tup PySem.W.kitx_dict I.p6 ⟨o,h1,h2.1⟩ g1 e (fun z=>nomatch z) h
 | @ins a C dx fs ea cl ha hn htk hm=>
  cases (show u=Value.ref a from rx)
  obtain ⟨mA,O,_⟩:=Fg I.hok ea
  obtain ⟨od,J,_⟩:=O.look
  exact PySem.W.kia_tup (PySem.W.kitx_own (cl.get _) cl.hd ha hn htk hm) I.p6 J g1 e (fun z=>nomatch z) h
theorem yJ {X:Cx}:cI X (.builtin "isinstance") (fun xs H Q=>∃x c m n t p q,xs=[x,.ref c]∧H c=some (.tup [.ty m,.ty n])∧kE X.K H x t∧PySem.W.kitOne X.K t (.type m)=some p∧PySem.W.kitOne X.K t (.type n)=some q∧Q (.bl (p || q)) H):=by
 intro pins s σ H xs us Q I r h
 obtain ⟨x,c,m,n,t,p,q,rfl,hc,ty,e1,e2,k⟩:=h
 obtain ⟨u,u2,rfl,r1,r2⟩:=vals2 r
 cases r2
 obtain ⟨_,its,rv,ob,g1,g2,g3⟩:=(show bV X.prog X.w H s.heap c (.tup [.ty m,.ty n]) from I.hok c _ hc)
 cases rv with
 | cons a1 rv=>
  cases rv with
  | cons a2 rv=>
   cases rv
   cases a1
   cases a2
   exact Dh I r1 ty (O9 e1 e2) ⟨ob,g1,g2,g3⟩ fun tk=>⟨.bl (p || q),H,I.tok tk,rfl,k⟩
end L2
namespace L2
open PySem PySem.Spec PyProof.Rows PySem.W
section
variable {N:Nat} {lt:Nat→Nat→Bool} {α β:Type}
noncomputable def bM (N:Nat) (lt:Nat→Nat→Bool):KasT α→(α→Prop)→Prop
 | .ret a,R=>R a
 | .ask i j k,R=>i < N∧j < N∧bM N lt (k (lt i j)) R
theorem bM.mono {R S:α→Prop}:∀{t:KasT α},bM N lt t R→(∀a,R a→S a)→bM N lt t S
 | .ret a,h,f=>f a h
 | .ask i j k,h,f=>⟨h.1,h.2.1,bM.mono h.2.2 f⟩
theorem bM.bind {f:α→KasT β} {R:β→Prop}:∀{t:KasT α},bM N lt t (fun a=>bM N lt (f a) R)→bM N lt (t.bind f) R
 | .ret a,h=>h
 | .ask i j k,h=>⟨h.1,h.2.1,bM.bind h.2.2⟩
theorem bM.wp {cmp:Nat→Nat→(Bool→Shared→Prop)→Shared→Prop} {R:α→Prop} {Q:α→Shared→Prop} {s:Shared} (ask:∀i j,i < N→j < N→∀C:Bool→Shared→Prop,C (lt i j) s→cmp i j C s) (q:∀a,R a→Q a s):∀{t:KasT α},bM N lt t R→t.kasWp cmp Q s
 | .ret a,h=>q a h
 | .ask i j k,h=>ask i j h.1 h.2.1 _ (bM.wp ask q h.2.2)
noncomputable def KP (N:Nat) (p:Array Nat):Prop:=p.toList.Perm (List.range N)
theorem KP.ix {p:Array Nat} (h:KP N p) (h0:0 < N) (i:Nat):p.getD i 0 < N:=by
 by_cases hi:i < p.size
 ·have:p.getD i 0∈p.toList:=by simp [Array.getD,hi]
  exact List.mem_range.mp (h.mem_iff.mp this)
 ·simpa [Array.getD,hi] using h0
theorem KP.rev {p:Array Nat} (h:KP N p) (i j:Nat):KP N (kas_rev p i j):=((mirror_perm p i j _).toList).trans h
theorem KP.bub {p:Array Nat} (h:KP N p) (i j:Nat):KP N (bubble p i j):=((bubble_perm p i j).toList).trans h
theorem Di {p:Array Nat} (h:KP N p) (h0:0 < N):∀f n,bM N lt (kas_asc p f n) fun _=>True
 | 0,n=>trivial
 | f + 1,n=>by
  refine ⟨h.ix h0 _,h.ix h0 _,?_⟩
  dsimp only
  split
  ·exact trivial
  ·exact Di h h0 f (n + 1)
theorem sW (h0:0 < N):∀f (p:Array Nat) n q,KP N p→bM N lt (kas_desc f p n q) fun r=>KP N r.1
 | 0,p,n,q,h=>h
 | f + 1,p,n,q,h=>by
  refine ⟨h.ix h0 _,h.ix h0 _,?_⟩
  dsimp only
  split
  ·split
   ·exact sW h0 f _ _ _ (h.rev _ _)
   ·exact sW h0 f _ _ _ h
  ·refine ⟨h.ix h0 _,h.ix h0 _,?_⟩
   dsimp only
   split
   ·exact h
   ·exact sW h0 f _ _ _ h
theorem Ab (h0:0 < N) {p:Array Nat} (h:KP N p) (n nrem:Nat):bM N lt (kas_tail3 n nrem p) fun r=>KP N r.2:=
 bM.bind (bM.mono (Di (h.rev 0 n) h0 _ _) fun _ _=>h.rev 0 n)
theorem rE (h0:0 < N) {p:Array Nat} (h:KP N p) (n nrem:Nat):bM N lt (kas_descPart n nrem p) fun r=>KP N r.2:=by
 refine bM.bind (bM.mono (sW h0 _ p _ _ h) fun r hr=>?_)
 split
 ·exact Ab h0 (KP.rev hr _ _) _ _
 ·exact Ab h0 hr _ _
theorem KC (h0:0 < N) {p:Array Nat} (h:KP N p) (nrem:Nat):bM N lt (kas_count nrem p) fun r=>KP N r.2:=by
 refine bM.bind (bM.mono (Di h h0 _ _) fun n _=>?_)
 split
 ·exact h
 ·split
  ·refine ⟨h.ix h0 _,h.ix h0 _,?_⟩
   dsimp only
   split
   ·exact h
   ·exact rE h0 (h.rev _ _) _ _
  ·exact rE h0 h _ _
theorem uh (h0:0 < N) {p:Array Nat} (h:KP N p) (k:Nat):∀f l r,bM N lt (kas_place p k f l r) fun _=>True
 | 0,l,r=>trivial
 | f + 1,l,r=>by
  unfold kas_place
  split
  ·exact trivial
  ·refine ⟨h.ix h0 _,h.ix h0 _,?_⟩
   dsimp only
   split
   ·exact uh h0 h k f _ _
   ·exact uh h0 h k f _ _
theorem KD (h0:0 < N):∀f (p:Array Nat) k,KP N p→bM N lt (kas_bin f p k) (KP N)
 | 0,p,k,h=>h
 | f + 1,p,k,h=>bM.bind (bM.mono (uh h0 h k _ _ _) fun l _=>KD h0 f _ _ (h.bub _ _))
theorem Fv (h0:0 < N):bM N lt (kas_sort N) (KP N):=by
 refine bM.bind (bM.mono (KC h0 (p:=List.toArray (List.range N)) (List.Perm.refl _) N) fun r hr=>?_)
 split
 ·exact KD h0 _ _ _ hr
 ·exact hr
end
noncomputable def kLt:Key→Key→Bool
 | .inl i,.inl j=>decide (i < j)
 | .inr x,.inr y=>decide (x.cps.toList < y.cps.toList)
 | _,_=>false
noncomputable def jd:List Key→List Key→Bool
 | a::r,b::t=>if a=b then jd r t else kLt a b
 | _,_=>false
noncomputable def eZ:Key→Bool
 | .inl _=>true
 | .inr _=>false
section
variable {prog:Program} {w:World} {A:Around} {E:Value→Shared→Prop} {s:Shared} {Q:Bool→Shared→Prop}
theorem KH {a b:Key} {u v:Value} {f:Bool} (ra:RelV (kV a) u) (rb:RelV (kV b) v) (ht:eZ a=eZ b) (h:Q (kLt a b) s):wpAny (model prog w) A (oneLt' f u v) Q E s:=by
 cases a with
 | inl i=>
  cases b with
  | inr y=>cases ht
  | inl j=>
   obtain ⟨t,rfl⟩:=ra
   obtain ⟨t',rfl⟩:=rb
   cases f with
   | true=>exact oneLt_int h
   | false=>exact kat_one _ _ (lt_int h)
 | inr x=>
  cases b with
  | inl y=>cases ht
  | inr y=>
   obtain ⟨t,rfl⟩:=ra
   obtain ⟨t',rfl⟩:=rb
   cases f with
   | true=>exact oneLt_str h
   | false=>exact kat_one _ _ (lt_str h)
theorem Fw {a b:Key} (ht:eZ a=eZ b):Kc (kV a) (kV b)=decide (a=b):=by
 cases a with
 | inl i=>
  cases b with
  | inr y=>cases ht
  | inl j=>show (i==j)=_; rw [Bool.eq_iff_iff]; simp
 | inr x=>
  cases b with
  | inl y=>cases ht
  | inr y=>show (x==y)=_; rw [Bool.eq_iff_iff]; simp
theorem oW (a:Key):jq (kV a)=true:=by cases a <;> rfl
theorem Ac:∀{ks js:List Key} {us vs:List Value} {i:Nat},Vals (ks.map kV) us→Vals (js.map kV) vs→ks.map eZ=js.map eZ→Q (jd ks js) s→KatLex prog w A true false Q (us.zip vs) i s
 | [],[],_,_,_,ra,rb,_,h=>by
  cases ra
  cases rb
  exact kat_nil h
 | [],_::_,_,_,_,_,_,e,_=>by cases e
 | _::_,[],_,_,_,_,_,e,_=>by cases e
 | a::ks,b::js,us,vs,i,ra,rb,e,h=>by
  cases ra with
  | cons r1 ra=>
   cases rb with
   | cons r2 rb=>
    have e1:eZ a=eZ b:=(List.cons.inj e).1
    have e2:=(List.cons.inj e).2
    refine kat_cons (CW r1 r2 (oW a) (oW b) prog w _ _ ?_)
    rw [Fw e1]
    unfold jd at h
    by_cases hab:a=b
    ·rw [if_pos hab] at h
     rw [decide_eq_true hab]
     exact kat_yes (Ac ra rb e2 h)
    ·rw [if_neg hab] at h
     rw [decide_eq_false hab]
     exact kat_no (KH r1 r2 e1 h)
end
section
variable {prog:Program} {w:World} {A:Around} {E:Value→Shared→Prop} {s:Shared} {vs:List Value} {κ:SortKind} {lt:Nat→Nat→Bool} {Rl:List Nat→Prop}
noncomputable def Kp (a:Addr) (h h':Heap):Prop:=∀b o,b≠a→h.get? b=some o→h'.get? b=some o
theorem Dj {a:Addr} {n:Nat} {P:PySem.Fin→Shared→Prop} (ho:s.heap.get? a=some (seqObj "list" vs.toArray n)) (h64:vs.length < 64) (hg:2≤vs.length→bM vs.length lt (kas_sort vs.length) fun p=>KP vs.length p∧Rl p.toList) (hsm:vs.length < 2→Rl (List.range vs.length))
  (hk:2≤vs.length→∀s':Shared,Kp a s.heap s'.heap→∀Q:SortKind→Shared→Prop,Q κ s'→wpAny (model prog w) A (keyKind' vs.toArray) Q (fun _ _=>False) s')
  (hl:2≤vs.length→∀s':Shared,Kp a s.heap s'.heap→∀i j,i < vs.length→j < vs.length→∀C:Bool→Shared→Prop,C (lt i j) s'→kas_ask prog w A κ vs i j C s')
  (h:∀(p:List Nat) (h':Heap) (c:Nat),p.Perm (List.range vs.length)→Rl p→Kp a s.heap h'→h'.get? a=some (seqObj "list" (p.map fun i=>vs.getD i Value.none).toArray c)→P (.done (.ret .none)) { s with heap:=h' }):
  wpAny (model prog w) A (Builtin.«list.sort» ⟨[.ref a],[]⟩) P E s:=by
 have lta:a < s.heap.objs.size:=Heap.lt_size ho
 obtain ⟨e1,ho1⟩:∃e1,(s.heap.update a (Obj.mapSeq fun _=>(#[]:Array Value))).get? a=some (seqObj "list" #[] e1):=⟨_,get?_update_seq ho fun _=>#[]⟩
 have sz:vs.length≤sizeLine:=by rw [sizeLine_eq]; omega
 have kp:Kp a s.heap (((s.heap.update a (Obj.mapSeq fun _=>(#[]:Array Value))).push (seqObj "tuple" vs.toArray 0)).push (seqObj "list" #[] 0)):=fun b o hb e=>
  Heap.get?_push_of_some _ (Heap.get?_push_of_some _ (((Heap.SameBut.update s.heap a _).2 b hb).trans e))
 have Wq:(((s.heap.update a (Obj.mapSeq fun _=>(#[]:Array Value))).push (seqObj "tuple" vs.toArray 0)).push (seqObj "list" #[] 0)).get? a=some (seqObj "list" #[] e1):=Heap.get?_push_of_some _ (Heap.get?_push_of_some _ ho1)
 rw [list_sort_plain]
 refine wpAny_bind (listItems_at ho rfl (wpAny_bind (listUpdate_at ho rfl (wpAny_bind (seqEpoch_at ho1 rfl (wpAny_bind (wpAny_newTuple (wpAny_bind (wpAny_newList (wpAny_holding ?_) (Nat.zero_le _))) (by show vs.length≤_; exact sz))))) (by rw [List.size_toArray]; exact sz) (Nat.zero_le _))))
 show wpAny (model prog w) A _ P E { s with heap:=((s.heap.update a (Obj.mapSeq fun _=>(#[]:Array Value))).push (seqObj "tuple" vs.toArray 0)).push (seqObj "list" #[] 0) }
 dsimp only
 have fin:∀(p:List Nat),p.Perm (List.range vs.length)→Rl p→∀out:Array Value,out=(p.map fun i=>vs.getD i Value.none).toArray→
   P (.done (.ret .none)) { s with heap:=(((s.heap.update a (Obj.mapSeq fun _=>(#[]:Array Value))).push (seqObj "tuple" vs.toArray 0)).push (seqObj "list" #[] 0)).update a (Obj.mapSeq fun _=>out) }:=fun p hp hrl out eo=>by
  subst eo
  refine h p _ _ hp hrl (fun b o hb e=>((Heap.SameBut.update _ a _).2 b hb).trans (kp b o hb e)) (get?_update_seq Wq _)
 by_cases h2:vs.toArray.size < 2
 ·rw [if_pos h2,if_pos h2]
  refine wpAny_bind (wpAny_pure ?_)
  rw [StateT.run_pure]
  refine wpAny_bind (wpAny_pure ?_)
  dsimp only
  have hz:(pairsOf vs).size≤sizeLine:=by rw [pairsOf_size]; exact sz
  refine wpAny_bind (seqEpoch_at Wq rfl (wpAny_bind (listUpdate_at Wq rfl ?_ (hsz2:=by rw [Array.size_map]; show (pairsOf vs).size≤_; omega))))
  simp only [bne_self_eq_false,Bool.false_eq_true,if_false]
  refine wpAny_pure (fin (List.range vs.length) (List.Perm.refl _) (hsm (by simpa using h2)) _ ?_)
  apply Array.toList_inj.mp
  show ((vs.toArray.zip vs.toArray).map (·.2)).toList=_
  rw [Array.toList_map,Array.toList_zip,List.map_snd_zip (Nat.le_refl _)]
  show vs=_
  refine List.ext_getElem (by simp) fun i h1 h3=>?_
  simp [List.getD,h1]
 ·have h2':2≤vs.length:=by simpa using h2
  rw [if_neg h2,if_neg h2]
  refine wpAny_bind (wpAny_mono (hk h2' _ kp (fun k s'=>k=κ∧s'={ s with heap:=((s.heap.update a (Obj.mapSeq fun _=>(#[]:Array Value))).push (seqObj "tuple" vs.toArray 0)).push (seqObj "list" #[] 0) }) ⟨rfl,rfl⟩) (fun k s0 hk0=>?_) fun _ _ x=>x.elim)
  obtain ⟨rfl,rfl⟩:=hk0
  refine wpAny_bind (wpAny_mono (kat_run (ks:=vs) (vs:=vs) (Q:=fun st' s'=>∃p:Array Nat,(KP vs.length p∧Rl p.toList)∧arrOf st'=p.map (kas_item (vs.toArray.zip vs.toArray))∧failedOf st'=none∧s'={ s with heap:=((s.heap.update a (Obj.mapSeq fun _=>(#[]:Array Value))).push (seqObj "tuple" vs.toArray 0)).push (seqObj "list" #[] 0) })
   rfl h2' h64 (G:=fun p s'=>(KP vs.length p∧Rl p.toList)∧s'={ s with heap:=((s.heap.update a (Obj.mapSeq fun _=>(#[]:Array Value))).push (seqObj "tuple" vs.toArray 0)).push (seqObj "list" #[] 0) }) (fun p st' s' a1 a2 a3 a4=>⟨p,a4.1,a2,a3,a4.2⟩) (bM.wp (lt:=lt) (hl h2' _ kp) (fun p hp=>⟨hp,rfl⟩) (hg h2'))) ?_ fun _ _ e=>e)
  rintro ⟨⟨⟩,st'⟩ s' ⟨p,⟨hp,hrl⟩,har,hf,rfl⟩
  dsimp only
  have hout:=kat_snds (ks:=vs) (vs:=vs) rfl har
  have hps:p.toList.length=vs.length:=by rw [hp.length_eq,List.length_range]
  rw [hout]
  refine wpAny_bind (seqEpoch_at Wq rfl (wpAny_bind (listUpdate_at Wq rfl ?_ (Nat.zero_le _) (by rw [List.size_toArray,List.length_map,hps]; omega))))
  rw [hf]
  simp only [bne_self_eq_false,Bool.false_eq_true,if_false]
  exact wpAny_pure (fin p.toList hp hrl _ rfl)
theorem rF {r:Addr} {Q:Value→Shared→Prop} (h64:vs.length < 64) (hg:2≤vs.length→bM vs.length lt (kas_sort vs.length) fun p=>KP vs.length p∧Rl p.toList) (hsm:vs.length < 2→Rl (List.range vs.length))
  (hc:∀R:List Value→Shared→Prop,(∀us h1 tk,s.heap.objs.size≤h1.objs.size→(∀b o,s.heap.get? b=some o→h1.get? b=some o)→us=vs→R us { s with heap:=h1,toks:=tk })→wpAny (model prog w) A.in1 (collect (.ref r)) R E s)
  (hk:2≤vs.length→∀s':Shared,(∀b o,s.heap.get? b=some o→s'.heap.get? b=some o)→∀Q:SortKind→Shared→Prop,Q κ s'→wpAny (model prog w) A.in1.in1 (keyKind' vs.toArray) Q (fun _ _=>False) s')
  (hl:2≤vs.length→∀s':Shared,(∀b o,s.heap.get? b=some o→s'.heap.get? b=some o)→∀i j,i < vs.length→j < vs.length→∀C:Bool→Shared→Prop,C (lt i j) s'→kas_ask prog w A.in1.in1 κ vs i j C s')
  (h:∀(p:List Nat) (D:Addr) (h':Heap) (c tk:Nat),p.Perm (List.range vs.length)→Rl p→s.heap.objs.size≤D→(∀b o,s.heap.get? b=some o→h'.get? b=some o)→h'.get? D=some (seqObj "list" (p.map fun i=>vs.getD i Value.none).toArray c)→Q (.ref D) { s with heap:=h',toks:=tk }):
  wpAny (model prog w) A (call (.builtin "sorted") [.ref r]) Q E s:=by
 refine Calls.call_function_entry kind_sorted plain_sorted entry_sorted (args_sorted1 _) ?_
 unfold Builtin.«sorted»
 refine wpAny_bind (m:=checkCount "sorted" 1 1 _) (wpAny_pure (wpAny_bind (hc _ fun us h1 tk hsz kk eu=>?_)))
 subst eu
 refine wpAny_bind (wpAny_newList ?_ (by rw [sizeLine_eq]; omega))
 have hoL:(h1.push (seqObj "list" us.toArray 0)).get? h1.objs.size=some (seqObj "list" us.toArray 0):=Heap.get?_push_size _ rfl
 have ltD:∀b o,s.heap.get? b=some o→b≠h1.objs.size:=fun b o e=>Nat.ne_of_lt (Heap.lt_size (kk b o e))
 have up:∀s':Shared,Kp h1.objs.size (h1.push (seqObj "list" us.toArray 0)) s'.heap→∀b o,s.heap.get? b=some o→s'.heap.get? b=some o:=fun s' k b o e=>k b o (ltD b o e) (Heap.get?_push_of_some _ (kk b o e))
 refine wpAny_bind (wpAny_holding (wpAny_call_entry slot_list_sort ⟨_,hoL,rfl⟩ entry_list_sort (Dj (κ:=κ) (lt:=lt) (s:={ s with heap:=h1.push (seqObj "list" us.toArray 0),toks:=tk }) hoL h64 hg hsm (fun h2 s' k=>hk h2 s' (up s' k)) (fun h2 s' k=>hl h2 s' (up s' k)) fun p h' c hp hrl k e=>⟨_,rfl,?_⟩) (args_list_sort _)))
 exact wpAny_pure ⟨_,rfl,h p h1.objs.size h' c tk hp hrl hsz (up { s with heap:=h' } k) e⟩
end
end L2
namespace L2
open PySem PySem.Spec PyProof.Rows PySem.W
noncomputable def Ad (h:Heap) (d:Addr) (es:Array DictEntry) (ep:Nat):Prop:=∃o,h.get? d=some o∧o.ExactDict∧o.data=.dict es ep
section
variable {prog:Program} {w:World} {A:Around} {E:Value→Shared→Prop} {s:Shared} {d it:Addr} {es:Array DictEntry} {ep i:Nat}
theorem Ad.ty (h:Ad s.heap d es ep):s.TypeIs (.ref d) "dict":=let ⟨o,ho,hc,_⟩:=h; ⟨o,ho,hc.1⟩
theorem KJ {Q:Value→Shared→Prop} (hd:(d==sysModules)=false) (hm:Ad s.heap d es ep)
  (hQ:Q (.ref s.heap.objs.size) { s with heap:=s.heap.push { cls:=.type "dict_keyiterator",data:=.fields #[.ref d,.int 0 0,.int es.size 0,.int ep 0] } }):wpAny (model prog w) A (pyIter (.ref d)) Q E s:=by
 obtain ⟨o,ho,hc,hdat⟩:=id hm
 have hT:=hm.ty
 refine wpAny_pyIter_slot hT F.slot_dict_iter (wpAny_call_entry F.slot_dict_iter hT F.entry_dict_iter ?_ (F.args_dict_iter_1 _)); unfold Builtin.«dict.__iter__»
 refine wpAny_bind ?_; unfold Builtin.Dict.dictSlotNone
 refine wpAny_bind (wpAny_notOrdered_dict hT ?_); show wpAny _ _ (pure (Value.ref d)) _ _ s
 refine wpAny_pure ?_; show wpAny _ _ (Builtin.Dict.showsAll d >>= _) _ _ s
 unfold Builtin.Dict.showsAll; rw [if_neg (by rw [hd]; exact Bool.false_ne_true)]
 refine wpAny_bind (wpAny_pure (wpAny_bind (wpAny_dictEntries ho hdat (wpAny_bind (wpAny_dictEpoch ho hdat ?_)))))
 refine wpAny_bind (wpAny_newObj_type (wpAny_pure ⟨_,rfl,"dict_keyiterator",_,⟨_,Heap.get?_push_size _ rfl,rfl⟩,F.slot_dict_keyiterator_next.lookup,?_⟩)); simpa [rawInt] using hQ
theorem KN {Q:Option Value→Shared→Prop} (hit:s.heap.IsKeyIter it d i es.size ep) (hm:Ad s.heap d es ep) (hlt:i < es.size)
  (hQ:∀h',h'.IsKeyIter it d (i + 1) es.size ep→Heap.SameBut it s.heap h'→Q (some es[i].key) { s with heap:=h' }):wpAny (model prog w) A (pyNext (.ref it)) Q E s:=by
 obtain ⟨o,ho,hc,hd⟩:=id hit; obtain ⟨od,hod,hcd,hdd⟩:=id hm
 unfold pyNext; refine wpAny_bind (wpAny_attempt (wpAny_callSpecial?_slot (name:=Str.ofString "__next__") hit.typeIs F.slot_dict_keyiterator_next (wpAny_call_entry F.slot_dict_keyiterator_next hit.typeIs F.entry_dict_keyiterator_next ?_ (F.args_dict_keyiterator_next_1 _))))
 refine wpAny_bind (wpAny_pure ?_); refine wpAny_bind ?_; refine wpAny_bind ?_
 first | refine wpAny_bind (wpAny_typeNameOfWhole_keyiter hit.typeIs (wpAny_pure (wpAny_bind (wpAny_fieldsOf ho hd ?_)))) | refine wpAny_bind (wpAny_typeNameOf_keyiter hit.typeIs (wpAny_pure (wpAny_bind (wpAny_fieldsOf ho hd ?_))))
 have own:Builtin.Dict_items.ownsTuple "dict_keyiterator"=false:=by decide
 simp only [own,Bool.false_eq_true,if_false]; show wpAny _ _ (if (Value.ref d==Value.none)=true then _ else _) _ _ s
 rw [if_neg (show ¬((Value.ref d==Value.none)=true) from Bool.false_ne_true)]; refine wpAny_bind (wpAny_pure (wpAny_bind (wpAny_dictEntries hod hdd ?_)))
 rw [if_neg (by simp)]; refine wpAny_bind (wpAny_pure (wpAny_bind (wpAny_dictEpoch hod hdd ?_)))
 rw [if_neg (by simp)]; refine wpAny_pure ?_
 simp only [show ¬((i:Int) < 0) from by omega,if_false,Int.toNat_natCast,Array.getElem?_eq_getElem hlt]; refine wpAny_bind ?_
 first | refine wpAny_bind (wpAny_typeNameOfWhole_keyiter hit.typeIs (wpAny_pure (wpAny_bind (wpAny_isOneOf_keyiter hit.typeIs ?_)))) | refine wpAny_bind (wpAny_typeNameOf_keyiter hit.typeIs (wpAny_pure (wpAny_bind (wpAny_isOneOf_keyiter hit.typeIs ?_))))
 show wpAny _ _ (setField (.ref it) 1 (rawInt ((i:Int) + 1)) >>= _) _ _ s; refine wpAny_bind (wpAny_setField ho hd (by simp) ?_)
 have hit':(s.heap.update it (Obj.mapFields (·.setIfInBounds 1 (rawInt ((i:Int) + 1))))).IsKeyIter it d (i + 1) es.size ep:=⟨_,Heap.get?_update_self _ ho (Obj.isFreed_of_fields (Obj.data_mapFields hd _)),(Obj.cls_mapFields ..).trans hc,by rw [Obj.data_mapFields hd]; simp [rawInt]⟩
 refine wpAny_bind (wpAny_holding ?_); refine wpAny_bind (wpAny_isOneOf_keyiter (s:={ s with heap:=s.heap.update it (Obj.mapFields (·.setIfInBounds 1 (rawInt ((i:Int) + 1)))) }) hit'.typeIs ?_)
 show wpAny _ _ (pure es[i].key) _ _ _; exact wpAny_pure (wpAny_pure ⟨_,rfl,wpAny_pure (hQ _ hit' (Heap.SameBut.update ..))⟩)
theorem Pa {Q:Option Value→Shared→Prop} (hh:A.handled=none) (hit:s.heap.IsKeyIter it d i es.size ep) (hm:Ad s.heap d es ep) (hge:es.size≤i)
  (hQ:∀h',Heap.ExtBut it s.heap h'→Q none { s with heap:=h' }):wpAny (model prog w) A (pyNext (.ref it)) Q E s:=by
 obtain ⟨o,ho,hc,hd⟩:=id hit; obtain ⟨od,hod,hcd,hdd⟩:=id hm
 unfold pyNext; refine wpAny_bind (wpAny_attempt (wpAny_callSpecial?_slot (name:=Str.ofString "__next__") hit.typeIs F.slot_dict_keyiterator_next (wpAny_call_entry F.slot_dict_keyiterator_next hit.typeIs F.entry_dict_keyiterator_next ?_ (F.args_dict_keyiterator_next_1 _))))
 refine wpAny_bind (wpAny_pure ?_); refine wpAny_bind ?_; refine wpAny_bind ?_
 first | refine wpAny_bind (wpAny_typeNameOfWhole_keyiter hit.typeIs (wpAny_pure (wpAny_bind (wpAny_fieldsOf ho hd ?_)))) | refine wpAny_bind (wpAny_typeNameOf_keyiter hit.typeIs (wpAny_pure (wpAny_bind (wpAny_fieldsOf ho hd ?_))))
 have own:Builtin.Dict_items.ownsTuple "dict_keyiterator"=false:=by decide
 simp only [own,Bool.false_eq_true,if_false]; show wpAny _ _ (if (Value.ref d==Value.none)=true then _ else _) _ _ s
 rw [if_neg (show ¬((Value.ref d==Value.none)=true) from Bool.false_ne_true)]; refine wpAny_bind (wpAny_pure (wpAny_bind (wpAny_dictEntries hod hdd ?_)))
 rw [if_neg (by simp)]; refine wpAny_bind (wpAny_pure (wpAny_bind (wpAny_dictEpoch hod hdd ?_)))
 rw [if_neg (by simp)]; refine wpAny_pure ?_
 simp only [show ¬((i:Int) < 0) from by omega,if_false,Int.toNat_natCast,Array.getElem?_eq_none hge]; refine wpAny_bind ?_
 first | refine wpAny_bind (wpAny_typeNameOfWhole_keyiter hit.typeIs (wpAny_pure ?_)) | refine wpAny_bind (wpAny_typeNameOf_keyiter hit.typeIs (wpAny_pure ?_))
 show wpAny _ _ (setField (.ref it) 0 .none >>= _) _ _ s; refine wpAny_bind (wpAny_setField ho hd (by simp) ?_)
 show wpAny _ _ (newExc (.type "StopIteration") [] >>= _) _ _ _; refine wpAny_bind ?_; simp only [newExc,newTuple]
 refine wpAny_bind (wpAny_newObj_type ?_ (by size_fits)); refine wpAny_bind (m:=firstArgMember _ _) (wpAny_of_eq (a:=Value.none) (by first | rfl | (simp only [firstArgMember]; rfl)) ?_)
 refine wpAny_newObj_type ?_ (by size_fits); simp only [raiseNew]; refine wpAny_bind (wpAny_handled ?_)
 rw [show A.in1.handled=none from hh]; refine wpAny_bind (wpAny_pure (wpAny_throw ?_))
 refine wpAny_bind (wpAny_isInstance (T:="StopIteration") (b:=true) ⟨_,Heap.get?_push_size _ rfl,rfl⟩ isSubtype_stop ?_); exact wpAny_pure (hQ _ (((Heap.SameBut.update ..).extBut.push _).push _))
theorem Ij (hh:A.handled=none) (hne:d≠it):Walks prog w A it [it,d] [it] es.size (fun i v=>(es[i]?).map (·.key)=some v) (fun i h=>h.IsKeyIter it d i es.size ep∧Ad h d es ep) where
 sub:=fun b hb=>by simp at hb; simp [hb]
 frame:=fun _ _ _ st hk=>⟨st.1.at fun o e=>hk it (by simp) o e,let ⟨o,ho,r⟩:=st.2; ⟨o,hk d (by simp) o ho,r⟩⟩
 item:=fun i s Q E hi st hQ=>KN st.1 st.2 hi fun h' hit' hs'=>hQ _ h' s.toks (by simp [hi]) ⟨hit',let ⟨o,ho,r⟩:=st.2; ⟨o,(hs'.2 d hne).trans ho,r⟩⟩ fun b o hb e=>(hs'.2 b fun z=>hb (by simp [z])).trans e
 done:=fun s Q E st hQ=>Pa hh st.1 st.2 (Nat.le_refl _) fun h' he'=>hQ h' s.toks fun b o hb e=>he' b o (fun z=>hb (by simp [z])) e
 self:=fun _ _ _ _ st hQ=>wpAny_pyIter_keyiter st.1 hQ
theorem Pb (lo:(d==sysModules)=false):KdlSrc prog w "dict" d d es.size (fun i v=>(es[i]?).map (·.key)=some v) (fun h=>Ad h d es ep) where
 type:=fun _ hm=>hm.ty
 there:=fun _ hm=>let ⟨_,ho,_⟩:=hm; ⟨Heap.lt_size ho,Heap.lt_size ho⟩
 keep:=fun _ _ hm hk=>let ⟨o,ho,r⟩:=hm; ⟨o,hk d (.inl rfl) o ho,r⟩
 notList:=by decide
 notTuple:=by decide
 hint:=fun _ _ _ _ hm hq=>kdl_hint_dict hm.ty hq
 iter:=fun _ _ hh hm=>⟨_,_,(fun _ _ hq=>KJ lo hm hq),Ij hh (let ⟨_,ho,_⟩:=hm; Nat.ne_of_lt (Heap.lt_size ho)),⟨⟨_,Heap.get?_push_size _ rfl,rfl,rfl⟩,let ⟨o,ho,r⟩:=hm; ⟨o,Heap.get?_push_of_some _ ho,r⟩⟩⟩
theorem Ae {T:String} {r d:Addr} {n:Nat} {P:Nat→Value→Prop} {OK:Heap→Prop} {R:List Value→Shared→Prop} (K:KdlSrc prog w T r d n P OK) (hh:A.handled=none) (hok:OK s.heap) (hn:n≤sizeLine)
  (h:∀(h':Heap) (tk:Nat) (acc:Array Value),s.heap.objs.size≤h'.objs.size→(∀b o,s.heap.get? b=some o→h'.get? b=some o)→ItemsOf P acc n→R acc.toList { s with heap:=h',toks:=tk }):
  wpAny (model prog w) A (collect (.ref r)) R E s:=by
 have hlt:=K.there _ hok
 unfold collect; refine wpAny_bind (wpAny_runValue (codeAny_builtin entry_proto_collect' ?_)); rw [Around.under_plainId PySem.F.plain_proto_collect _]
 show wpAny _ A.in1 (newList [] >>= fun l=>again (.builtin "list.__iadd__" ⟨[l,.ref r],[]⟩)) _ _ s; refine wpAny_bind (wpAny_newObj_type ?_)
 refine wpAny_pure ⟨plainId_quiet PySem.F.plain_list_iadd _,codeAny_builtin entry_list_iadd' ?_⟩; rw [Around.under_plainId PySem.F.plain_list_iadd _]
 have hS:(s.heap.push { cls:=.type "list",data:=.seq ([]:List Value).toArray }).get? s.heap.objs.size=some { cls:=.type "list",data:=.seq #[] }:=Heap.get?_push_size _ rfl
 show wpAny _ A.in1 (Builtin.List.listExtendWith (.ref s.heap.objs.size) (.ref r) (.ref s.heap.objs.size)) _ _ _
 have key:=kdl_extend (A:=A) (s:={ s with heap:=s.heap.push { cls:=.type "list",data:=.seq ([]:List Value).toArray } }) (R:=fun (q:Result) (s':Shared)=>∃(h':Heap) (tk:Nat) (acc':Array Value) (c':Nat),q=.ok (.ret (.ref s.heap.objs.size))∧s'={ s with heap:=h',toks:=tk }∧(∀b o,s.heap.get? b=some o→h'.get? b=some o)∧h'.get? s.heap.objs.size=some { cls:=.type "list",dict:=none,data:=.seq acc' c',slots:=#[] }∧ItemsOf P acc' n)
  K hh (K.keep _ _ hok fun b _ o e=>Heap.get?_push_of_some _ e) s.heap.objs.size (Nat.ne_of_gt hlt.1) (Nat.ne_of_gt hlt.2) (.ref s.heap.objs.size) 0 hS (fun h' tk acc' c' hk hS' hacc=>⟨h',tk,acc',c',rfl,rfl,fun b o e=>hk b o (Nat.ne_of_lt (Heap.lt_size e)) (Heap.get?_push_of_some _ e),hS',hacc⟩) hn
 refine wpAny_mono key (fun fin s' x=>?_) fun e s' x=>?_
 ·cases fin with
  | done f=>
   obtain ⟨h',tk,acc',c',e,rfl,hk,hS',hacc⟩:=x
   cases e; show wpAny _ A (load s.heap.objs.size >>= _) _ _ _
   exact wpAny_bind (wpAny_load hS' (wpAny_pure (h h' tk acc' (Nat.le_of_lt (Heap.lt_size hS')) hk hacc)))
  | again c₁=>
   refine ⟨x.1,codeAny_mono x.2 fun q s₂ y=>?_⟩
   obtain ⟨h',tk,acc',c',rfl,rfl,hk,hS',hacc⟩:=y
   show wpAny _ A (load s.heap.objs.size >>= _) _ _ _; exact wpAny_bind (wpAny_load hS' (wpAny_pure (h h' tk acc' (Nat.le_of_lt (Heap.lt_size hS')) hk hacc)))
 ·obtain ⟨_,_,_,_,e',_⟩:=x; cases e'
end
end L2
namespace L2
open PySem PySem.Spec PyProof.Rows PySem.W
theorem mG:∀{us:List Value} {ns:List Str},StrsAre us ns→Vals (ns.map V.str) us
 | _,_,.nil=>.nil
 | _,_,.cons _ t r=>.cons ⟨t,rfl⟩ (mG r)
section
variable {X:Cx}
theorem qp:cI X (.builtin "sorted") (fun xs H Q=>∃(p:Addr) (ns:List Int),xs=[.ref p]∧cJ X.K H p (ns.map V.int)∧ns.length < 64∧∀(l:Addr) (ns':List Int),H l=none→ns'.Perm ns→ns'.Pairwise (·≤·)→Q (.ref l) (upd H l (.lst (ns'.map V.int)))):=by
 intro pins s σ H xs us Q I r h
 obtain ⟨p,ns,rfl,hp,h64,q⟩:=h
 obtain ⟨u,rfl,ru⟩:=vals1 r
 cases ru
 obtain ⟨its,rv,pl,_⟩:=I.list hp
 have hi:IntsAre its ns:=intsAre_of rv
 have hl:=rv.length
 rw [List.length_map] at hl
 refine sorted_ints pl.isList hi (by omega) fun out ns' a1 a2 a3=>?_
 obtain ⟨e,he⟩:=sortedAll_at s.heap its out
 have hz:ns'.length≤sizeLine:=by rw [a2.length_eq,sizeLine_eq]; omega
 exact ⟨.ref (s.heap.objs.size + 1),_,I.laid (o:=.lst (ns'.map V.int)) (t':=s.toks) (fun _ _=>sortedAll_old) (Nat.le_succ _) ⟨by rw [List.length_map]; exact hz,out.toList,e,mF a1,by simpa [seqObj] using he⟩,rfl,q _ ns' (I.hok.fresh (Nat.le_succ _)) a2 a3⟩
theorem qt:cI X (.builtin "sorted") (fun xs H Q=>∃(p:Addr) (ns:List Str),xs=[.ref p]∧cJ X.K H p (ns.map V.str)∧ns.length < 64∧∀(l:Addr) (ns':List Str),H l=none→ns'.Perm ns→sortedS ns'=true→Q (.ref l) (upd H l (.lst (ns'.map V.str)))):=by
 intro pins s σ H xs us Q I r h
 obtain ⟨p,ns,rfl,hp,h64,q⟩:=h
 obtain ⟨u,rfl,ru⟩:=vals1 r
 cases ru
 obtain ⟨its,rv,pl,_⟩:=I.list hp
 have hi:StrsAre its ns:=nC rv
 have hl:=rv.length
 rw [List.length_map] at hl
 refine sorted_strs pl.isList hi (by omega) fun out ns' a1 a2 a3=>?_
 obtain ⟨e,he⟩:=sortedAll_at s.heap its out
 have hz:ns'.length≤sizeLine:=by rw [a2.length_eq,sizeLine_eq]; omega
 exact ⟨.ref (s.heap.objs.size + 1),_,I.laid (o:=.lst (ns'.map V.str)) (t':=s.toks) (fun _ _=>sortedAll_old) (Nat.le_succ _) ⟨by rw [List.length_map]; exact hz,out.toList,e,mG a1,by simpa [seqObj] using he⟩,rfl,q _ ns' (I.hok.fresh (Nat.le_succ _)) a2 a3⟩
theorem fB.aH {k:Nat} {A:Around} (r:fB k A):A.units + 1 < cLine:=by have:=r.un; omega
noncomputable abbrev Row:=Addr×List Key
noncomputable def TupAt (h:Heap) (r:Row):Prop:=∃its,Vals (r.2.map kV) its∧IsTup h r.1 its.toArray
theorem TupAt.keep {h h':Heap} {r:Row} (t:TupAt h r) (k:∀b o,h.get? b=some o→h'.get? b=some o):TupAt h' r:=by
 obtain ⟨its,v,o,e,c⟩:=t
 exact ⟨its,v,o,k _ _ e,c⟩
theorem FJ {h:Heap} {b:Bool} {sh:List Bool}:∀{rows:List Row},(∀r∈rows,TupAt h r∧r.2.map eZ=b::sh)→∃fs,KatTups h (rows.map fun r=>Value.ref r.1) fs∧fs.length=rows.length∧∀f∈fs,∃k,RelV (kV k) f∧eZ k=b
 | [],_=>⟨[],KatTups.nil,rfl,by simp⟩
 | r::rows,ha=>by
  obtain ⟨fs,t,l,g⟩:=FJ (rows:=rows) fun q hq=>ha q (List.mem_cons_of_mem _ hq)
  obtain ⟨⟨its,v,o,e,c,n,d⟩,s⟩:=ha r List.mem_cons_self
  obtain ⟨a,ks⟩:=r
  cases ks with
  | nil=>cases s
  | cons k ks=>
   cases v with
   | @cons _ u _ us v1 v2=>
    refine ⟨u::fs,KatTups.cons e c d (by simp) t,by simp [l],fun f hf=>?_⟩
    rcases List.mem_cons.mp hf with rfl | hf
    ·exact ⟨k,v1,(List.cons.inj s).1⟩
    ·exact g f hf
theorem Ik {M:Model} {h:Heap} {k:Key} {f:Value} {b:Bool} (r:RelV (kV k) f) (e:eZ k=b):Looks M h (typeOf f) (if b=true then .type "int" else .type "str"):=by
 subst e
 cases k with
 | inl i=>obtain ⟨t,rfl⟩:=r; exact Looks.of_pure rfl
 | inr i=>obtain ⟨t,rfl⟩:=r; exact Looks.of_pure rfl
theorem um (rows:List Row) {i:Nat} (hi:i < rows.length):(rows.map fun r=>Value.ref r.1).getD i Value.none=.ref rows[i].1:=by simp [List.getD,hi]
noncomputable def rowAt (rows:List Row) (i:Nat):List Key:=((rows[i]?).map (·.2)).getD []
theorem wW {prog:Program} {w:World} {A:Around} {s':Shared} {rows:List Row} {b:Bool} {sh:List Bool} (ha:∀r∈rows,TupAt s'.heap r∧r.2.map eZ=b::sh) (h0:0 < rows.length) (Q:SortKind→Shared→Prop) (q:Q (tuples' true) s'):
  wpAny (model prog w) A (keyKind' (rows.map fun r=>Value.ref r.1).toArray) Q (fun _ _=>False) s':=by
 obtain ⟨fs,t,l,g⟩:=FJ ha
 refine kat_kind (T:=if b=true then .type "int" else .type "str") t (by omega) (fun v hv=>?_) (by cases b <;> rfl) (by cases b <;> exact q)
 obtain ⟨k,r,e⟩:=g v hv
 exact Ik r e
theorem Pg {prog:Program} {w:World} {A:Around} {s':Shared} {rows:List Row} {sh:List Bool} (ha:∀r∈rows,TupAt s'.heap r∧r.2.map eZ=sh) {i j:Nat} (hi:i < rows.length) (hj:j < rows.length) (C:Bool→Shared→Prop) (q:C (jd (rowAt rows i) (rowAt rows j)) s'):
  kas_ask prog w A (tuples' true) (rows.map fun r=>Value.ref r.1) i j C s':=by
 obtain ⟨⟨its,v,o,e,c,n,d⟩,s1⟩:=ha rows[i] (List.getElem_mem hi)
 obtain ⟨⟨its2,v2,o2,e2,c2,n2,d2⟩,s2⟩:=ha rows[j] (List.getElem_mem hj)
 unfold kas_ask
 rw [um rows hi,um rows hj]
 have l1:=v.length
 have l2:=v2.length
 have l3:rows[i].2.length=rows[j].2.length:=by
  have:=congrArg List.length (s1.trans s2.symm)
  simpa using this
 refine kat_lt e d e2 d2 ?_
 have ez:decide (its.toArray.size < its2.toArray.size)=false:=by
  rw [decide_eq_false]
  simp only [List.size_toArray]
  rw [List.length_map] at l1 l2
  omega
 rw [ez]
 have q':C (jd rows[i].2 rows[j].2) s':=by
  unfold rowAt at q
  rw [List.getElem?_eq_getElem hi,List.getElem?_eq_getElem hj] at q
  exact q
 exact Ac (by simpa using v) (by simpa using v2) (s1.trans s2.symm) q'
theorem qu {rows:List Row} {p:List Nat} (h:p.Perm (List.range rows.length)):(p.map fun i=>rows.getD i (0,[])).Perm rows:=by
 have e:(List.range rows.length).map (fun i=>rows.getD i (0,[]))=rows:=List.ext_getElem (by simp) fun i h1 h2=>by simp [List.getD,h2]
 exact (h.map _).trans (by rw [e])
theorem wX {rows:List Row} {p:List Nat} (h:p.Perm (List.range rows.length)):(p.map fun i=>(rows.map fun r=>Value.ref r.1).getD i Value.none)=(p.map fun i=>rows.getD i (0,[])).map fun r=>Value.ref r.1:=by
 rw [List.map_map]
 refine List.map_congr_left fun i hi=>?_
 have hlt:=List.mem_range.mp (h.mem_iff.mp hi)
 rw [um rows hlt]
 simp [List.getD,hlt]
theorem FP:∀{rows:List Row} {us:List Value},Vals (rows.map fun r=>V.ref r.1) us→us=rows.map fun r=>Value.ref r.1
 | [],_,h=>by cases h; rfl
 | r::rows,_,h=>by
  cases h with
  | cons a b=>
   cases a
   rw [FP b]
   rfl
theorem qw:∀(rows:List Row),Vals (rows.map fun r=>V.ref r.1) (rows.map fun r=>Value.ref r.1)
 | []=>.nil
 | r::rows=>.cons rfl (qw rows)
end
end L2
namespace L2
open PySem PySem.Spec PyProof.Rows PySem.W
section
variable {K:PySem.W.Frag} {T:mW} {J:It} {n:Nat} {vs:Nat→List V} {G:Hp→Prop} {ts:TT} {em:TM} {fs:St} {H0 H1:Hp} {D:Addr} {done:Hp→Prop}
end
end L2
namespace L2
open PySem PySem.Spec PyProof.Rows PySem.W
theorem KQ (A:Around) (s:Shared) {a b:Key} {u v:Value} (ra:RelV (kV a) u) (rb:RelV (kV b) v) (ht:eZ a=eZ b):SeqAt.EqAt A s u v (decide (a=b)):=by
 rw [←Fw ht]
 exact CW ra rb (oW a) (oW b)
theorem Af (A:Around) (s:Shared) {a b:Key} {u v:Value} (ra:RelV (kV a) u) (rb:RelV (kV b) v) (ht:eZ a=eZ b) (prog:Program) (w:World) (E:Value→Shared→Prop) (Q:Value→Shared→Prop) (h:Q (.bool (kLt a b)) s):
  wpAny (model prog w) A (richCompare .Lt u v) Q E s:=by
 cases a with
 | inl i=>
  cases b with
  | inr y=>cases ht
  | inl j=>
   obtain ⟨t,rfl⟩:=ra
   obtain ⟨t',rfl⟩:=rb
   exact (lt_int h:wpAny (model prog w) A (compareOp .Lt _ _) Q E s)
 | inr x=>
  cases b with
  | inl y=>cases ht
  | inr y=>
   obtain ⟨t,rfl⟩:=ra
   obtain ⟨t',rfl⟩:=rb
   exact (lt_str h:wpAny (model prog w) A (compareOp .Lt _ _) Q E s)
section
open PySem.SeqAt
open PySem.AutoSeq1 (wpAny_loadPart')
open PySem.MeetsSeq PySem.MeetsSeq2 PySem.MeetsSeq3
theorem vY (l b:Addr) (items items2:Array Value) (n n2:Nat) (dd dd2:Option Addr) (sl sl2:Array (Option Value)) (ns ms:List Key) (hi:Vals (ns.map kV) items.toList) (hj:Vals (ms.map kV) items2.toList) (hty:ns.map eZ=ms.map eZ):
  Meets (Builtin.«tuple.__lt__» ⟨[.ref l,.ref b],[]⟩)
   (fun _ R s=>s.heap.get? l=some { cls:=.type "tuple",dict:=dd,data:=.seq items n,slots:=sl }∧s.heap.get? b=some { cls:=.type "tuple",dict:=dd2,data:=.seq items2 n2,slots:=sl2 }∧R (.ok (.ret (.bool (jd ns ms)))) s):=
 .of_wp fun prog w A R s h=>by
  obtain ⟨hp,g,d,tk,os⟩:=s; obtain ⟨hl,hb,h⟩:=h
  have f2:=AutoSeq1.sub_tuple_tuple
  have z0:ns.length=ms.length:=by have:=congrArg List.length hty; simpa using this
  have z1:items.size=ns.length:=by have:=hi.length; rw [List.length_map] at this; simpa using this.symm
  have z2:items2.size=ms.length:=by have:=hj.length; rw [List.length_map] at this; simpa using this.symm
  wp_walk using wpAny_loadPart' hl,wpAny_loadPart' hb,wpAny_forIn_list _ (fun rest b s'=>b.1=none∧s'=⟨hp,g,d,tk,os⟩∧∃(vs ws:List Value) (ns' ms':List Key),rest=vs.zip ws∧
   Vals (ns'.map kV) vs∧Vals (ms'.map kV) ws∧ns'.map eZ=ms'.map eZ∧R (.ok (.ret (.bool (jd ns' ms')))) ⟨hp,g,d,tk,os⟩) _
  case turn=>
   rintro ⟨y,x⟩ rest b s' ⟨hb',rfl,vs,ws,ns',ms',hz,XQ,hwi,hlen,hR⟩
   cases ns' with
   | nil=>cases XQ; rw [List.zip_nil_left] at hz; cases hz
   | cons a ns'=>
    cases ms' with
    | nil=>cases hlen
    | cons c ms'=>
     cases XQ with
     | cons r1 Wr=>
      cases hwi with
      | cons r2 Ws=>
       rw [List.zip_cons_cons] at hz
       injection hz with hyx hrest
       injection hyx with hy hx
       subst hy hx
       have t1:eZ a=eZ c:=(List.cons.inj hlen).1
       have t2:=(List.cons.inj hlen).2
       unfold jd at hR
       refine wpAny_bind (KQ A.in1 ⟨hp,g,d,tk,os⟩ r1 r2 t1 prog w _ _ ?_)
       by_cases hac:a=c
       ·rw [if_pos hac] at hR
        rw [decide_eq_true hac]
        wp_walk
        exact ⟨rfl,rfl,_,_,_,_,hrest,Wr,Ws,t2,hR⟩
       ·rw [if_neg hac] at hR
        rw [decide_eq_false hac]
        have hri:=Af A.in1 ⟨hp,g,d,tk,os⟩ r1 r2 t1 prog w
        wp_walk using hri
        exact ⟨_,rfl,by simpa using hR⟩
  case fin=>
   rintro ⟨b1,b2⟩ s' ⟨hb',rfl,vs,ws,ns',ms',hz,XQ,hwi,hlen,hR⟩
   simp only at hb'
   subst hb'
   have hv:jd ns' ms'=decide (items.size < items2.size):=by
    rw [decide_eq_false (by omega)]
    cases ns' with
    | nil=>unfold jd; rfl
    | cons a ns'=>
     cases ms' with
     | nil=>cases hlen
     | cons c ms'=>
      cases XQ with
      | cons r1 Wr=>
       cases hwi with
       | cons r2 Ws=>
        rw [List.zip_cons_cons] at hz
        cases hz
   rw [hv] at hR
   wp_walk
   exact ⟨_,rfl,by simpa [Builtin.Tuple.tupleCompareSizes] using hR⟩
  case h=>
   exact ⟨rfl,rfl,items.toList,items2.toList,ns,ms,rfl,hi,hj,hty,h⟩
end
theorem Dk {prog:Program} {w:World} {A:Around} {E:Value→Shared→Prop} {s:Shared} {l b:Addr} {items items2:Array Value} {ns ms:List Key} {Q:Value→Shared→Prop} (hl:IsTup s.heap l items) (hb:IsTup s.heap b items2) (hi:Vals (ns.map kV) items.toList) (hj:Vals (ms.map kV) items2.toList) (hty:ns.map eZ=ms.map eZ)
  (hu:A.units < cLine) (h:Q (.bool (jd ns ms)) s):wpAny (model prog w) A (compareOp .Lt (.ref l) (.ref b)) Q E s:=by
 obtain ⟨⟨cls,dd,data,sl⟩,ho,hc,n,hd⟩:=id hl
 obtain ⟨⟨cls2,dd2,data2,sl2⟩,ho2,hc2,n2,hd2⟩:=id hb
 simp only at hc hd hc2 hd2
 subst hc hd hc2 hd2
 exact richCompare_meets_room (op:=.Lt) ⟨_,ho,rfl⟩ ⟨_,ho2,rfl⟩ PySem.F.slot_tuple_lt PySem.F.entry_tuple_lt (PySem.F.args_tuple_lt_2 _ _) (vY l b items items2 n n2 dd dd2 sl sl2 ns ms hi hj hty)
  ⟨ho,ho2,show Value.bool (jd ns ms)≠Value.notImplemented∧Q (.bool (jd ns ms)) s from ⟨(fun x=>nomatch x),h⟩⟩ hu
mutual
noncomputable def RX (H:Hp):PyData→V→Prop
 | .none,v=>v=.non
 | .bool b,v=>v=.bl b
 | .int i,v=>v=.int i
 | .str x,v=>v=.str x
 | .list ds,v=>∃a vs,v=.ref a∧H a=some (.lst vs)∧Ag H ds vs
 | .tuple ds,v=>∃a vs,v=.ref a∧H a=some (.tup vs)∧Ag H ds vs
 | .dict _,_=>False
noncomputable def Ag (H:Hp):List PyData→List V→Prop
 | [],vs=>vs=[]
 | d::ds,vs=>∃v r,vs=v::r∧RX H d v∧Ag H ds r
end
mutual
theorem RX.same {H H':Hp} (s:aV H H'):∀{d:PyData} {v:V},RX H d v→RX H' d v
 | .none,_,h=>h
 | .bool _,_,h=>h
 | .int _,_,h=>h
 | .str _,_,h=>h
 | .list ds,_,h=>by
  obtain ⟨a,vs,e,q,r⟩:=h
  exact ⟨a,vs,e,s _ _ q,Ag.same s r⟩
 | .tuple ds,_,h=>by
  obtain ⟨a,vs,e,q,r⟩:=h
  exact ⟨a,vs,e,s _ _ q,Ag.same s r⟩
theorem Ag.same {H H':Hp} (s:aV H H'):∀{ds:List PyData} {vs:List V},Ag H ds vs→Ag H' ds vs
 | [],_,h=>h
 | d::ds,vs,h=>by
  obtain ⟨v,r,e,q,t⟩:=h
  exact ⟨v,r,e,RX.same s q,Ag.same s t⟩
end
mutual
theorem RX.rd {K:PySem.W.Frag} {H:Hp}:∀{d:PyData} {v:V},RX H d v→RD K H d v
 | .none,_,h=>h
 | .bool _,_,h=>h
 | .int _,_,h=>h
 | .str _,_,h=>h
 | .list ds,_,h=>by
  obtain ⟨a,vs,e,q,r⟩:=h
  exact ⟨a,vs,e,cJ.of q,Ag.rd r⟩
 | .tuple ds,_,h=>by
  obtain ⟨a,vs,e,q,r⟩:=h
  exact ⟨a,vs,e,gw.of q,Ag.rd r⟩
theorem Ag.rd {K:PySem.W.Frag} {H:Hp}:∀{ds:List PyData} {vs:List V},Ag H ds vs→wU K H ds vs
 | [],_,h=>h
 | d::ds,vs,h=>by
  obtain ⟨v,r,e,q,t⟩:=h
  exact ⟨v,r,e,RX.rd q,Ag.rd t⟩
end
noncomputable def Wt:PyData→Value
 | .none=>.type "NoneType"
 | .bool _=>.type "bool"
 | .int _=>.type "int"
 | .str _=>.type "str"
 | .list _=>.type "list"
 | .tuple _=>.type "tuple"
 | .dict _=>.type "dict"
theorem RX.ty {K:PySem.W.Frag} {H:Hp} {d:PyData} {v:V} (h:RX H d v):kE K H v (Wt d):=by
 cases d with
 | none=>cases (show v=.non from h); exact .non
 | bool b=>cases (show v=.bl b from h); exact .bl b
 | int i=>cases (show v=.int i from h); exact .int i
 | str x=>cases (show v=.str x from h); exact .str x
 | list ds=>obtain ⟨a,vs,rfl,e,_⟩:=h; exact .lst e
 | tuple ds=>obtain ⟨a,vs,rfl,e,_⟩:=h; exact .tup e
 | dict ds=>exact (show False from h).elim
section
variable {X:Cx}
theorem Dl (hu:X.A.units < cLine):gA X (compareOp .Lt) (fun x y H Q=>∃a b ks js,x=.ref a∧y=.ref b∧H a=some (.tup (ks.map kV))∧H b=some (.tup (js.map kV))∧ks.map eZ=js.map eZ∧Q (.bl (jd ks js)) H):=by
 intro pins s σ H x y v u Q I rx ry h
 obtain ⟨a,b,ks,js,rfl,rfl,ha,hb,ht,q⟩:=h
 cases rx
 cases ry
 obtain ⟨_,its,r1,p1⟩:=(show bV X.prog X.w H s.heap a (.tup (ks.map kV)) from I.hok a _ ha)
 obtain ⟨_,its2,r2,p2⟩:=(show bV X.prog X.w H s.heap b (.tup (js.map kV)) from I.hok b _ hb)
 exact Dk p1 p2 (by simpa using r1) (by simpa using r2) ht hu (bD I q rfl)
theorem Dm (hu:X.A.units < cLine):gA X (compareOp .Lt) (fun x y H Q=>(∃a b,x=kV a∧y=kV b∧eZ a=eZ b∧Q (.bl (kLt a b)) H)∨∃a b ks js,x=.ref a∧y=.ref b∧H a=some (.tup (ks.map kV))∧H b=some (.tup (js.map kV))∧ks.map eZ=js.map eZ∧Q (.bl (jd ks js)) H):=by
 refine gA.or ?_ (Dl hu)
 intro pins s σ H x y v u Q I rx ry h
 obtain ⟨a,b,rfl,rfl,ht,q⟩:=h
 exact Af X.A s rx ry ht _ _ _ _ (bD I q rfl)
end
end L2
namespace L2
open PySem PySem.Spec PyProof.Rows PySem.W
structure Ord (lt:Nat→Nat→Bool):Prop where
 Wu:∀a b,lt a b=true→lt b a=false
 trans:∀a b c,lt b a=false→lt c b=false→lt c a=false
section
variable {N:Nat} {lt:Nat→Nat→Bool} (O:Ord lt)
theorem KP.size {p:Array Nat} (h:KP N p):p.size=N:=by
 have:=h.length_eq
 rw [List.length_range] at this
 simpa using this
include O
end
end L2
namespace L2
open PySem PySem.Spec PyProof.Rows PySem.W
theorem Ph {a b:Key} (h:kLt a b=true):kLt b a=false:=by
 cases a with
 | inl i=>
  cases b with
  | inr y=>cases h
  | inl j=>have:=of_decide_eq_true h; exact decide_eq_false (by omega)
 | inr x=>
  cases b with
  | inl y=>cases h
  | inr y=>exact KeyOrd.klt_asymm (O:=strKind.toKeyOrd) (a:=x.cps.toList) (b:=y.cps.toList) h
theorem Ul {a b c:Key} (t1:eZ a=eZ b) (t2:eZ b=eZ c) (h:kLt a c=true):kLt a b=true∨kLt b c=true:=by
 cases a with
 | inl i=>
  cases b with
  | inr y=>cases t1
  | inl j=>
   cases c with
   | inr y=>cases t2
   | inl k=>
    have h1:=of_decide_eq_true h
    by_cases h2:i < j
    ·exact .inl (decide_eq_true h2)
    ·exact .inr (decide_eq_true (by omega))
 | inr x=>
  cases b with
  | inl y=>cases t1
  | inr y=>
   cases c with
   | inl k=>cases t2
   | inr z=>exact strKind.negTrans x.cps.toList y.cps.toList z.cps.toList h
theorem str_of_list {x y:Str} (h:x.cps.toList=y.cps.toList):x=y:=by
 cases x
 cases y
 simp at h
 simp [h]
theorem Um {a b:Key} (t:eZ a=eZ b) (h1:kLt a b=false) (h2:kLt b a=false):a=b:=by
 cases a with
 | inl i=>
  cases b with
  | inr y=>cases t
  | inl j=>
   have g1:=of_decide_eq_false h1
   have g2:=of_decide_eq_false h2
   have:i=j:=by omega
   rw [this]
 | inr x=>
  cases b with
  | inl y=>cases t
  | inr y=>
   have:=strKind.total x.cps.toList y.cps.toList h1 h2
   rw [str_of_list this]
noncomputable def rG (rows:List Row) (i:Nat):List Key:=(rows.getD i (rows.headD (0,[]))).2
noncomputable def rH (rows:List Row) (i j:Nat):Bool:=jd (rG rows i) (rG rows j)
noncomputable def runK {α:Type} (lt:Nat→Nat→Bool):KasT α→α
 | .ret a=>a
 | .ask i j k=>runK lt (k (lt i j))
theorem bM.run {α:Type} {N:Nat} {lt:Nat→Nat→Bool} {R:α→Prop}:∀{t:KasT α},bM N lt t R→bM N lt t (fun a=>R a∧a=runK lt t)∧R (runK lt t)
 | .ret a,h=>⟨⟨h,rfl⟩,h⟩
 | .ask i j k,h=>let r:=bM.run h.2.2; ⟨⟨h.1,h.2.1,r.1⟩,r.2⟩
noncomputable def vZ (ks:List (List Key)):List Nat:=if ks.length < 2 then List.range ks.length else (runK (fun i j=>jd (ks.getD i (ks.headD [])) (ks.getD j (ks.headD []))) (kas_sort ks.length)).toList
noncomputable def wg (ks:List (List Key)):List (List Key):=(vZ ks).map fun i=>ks.getD i (ks.headD [])
theorem Il (ks:List (List Key)):(vZ ks).Perm (List.range ks.length):=by
 unfold vZ
 split
 ·exact List.Perm.refl _
 ·exact (bM.run (Fv (lt:=fun i j=>jd (ks.getD i (ks.headD [])) (ks.getD j (ks.headD []))) (by omega))).2
theorem Im (ks:List (List Key)):(wg ks).Perm ks:=by
 have:=(Il ks).map fun i=>ks.getD i (ks.headD [])
 refine this.trans (List.Perm.of_eq ?_)
 refine List.ext_getElem (by simp) fun i h1 h2=>?_
 simp [h2]
theorem Ah (rows:List Row) (i:Nat):rG rows i=(rows.map (·.2)).getD i ((rows.map (·.2)).headD []):=by
 unfold rG
 cases h:rows[i]? with
 | none=>cases rows <;> simp_all [List.getD]
 | some r=>simp [List.getD,h]
theorem wY {rows:List Row} {n:Nat} (hn:n=rows.length) (h2:2≤n):bM n (rH rows) (kas_sort n) fun p=>KP n p∧p.toList=vZ (rows.map (·.2)):=by
 subst hn
 have e:rH rows=fun i j=>jd ((rows.map (·.2)).getD i ((rows.map (·.2)).headD [])) ((rows.map (·.2)).getD j ((rows.map (·.2)).headD [])):=by
  funext i j
  rw [rH,Ah,Ah]
 refine (bM.run (Fv (lt:=rH rows) (N:=rows.length) (by omega))).1.mono fun p hp=>⟨hp.1,?_⟩
 unfold vZ
 rw [if_neg (by rw [List.length_map]; omega),hp.2,e,List.length_map]
theorem uo {rows:List Row} {n:Nat} (hn:n=rows.length) (h:n < 2):List.range n=vZ (rows.map (·.2)):=by
 subst hn
 unfold vZ
 rw [if_pos (by rw [List.length_map]; exact h),List.length_map]
theorem FQ {rows:List Row} {p:List Nat} (h:p.Perm (List.range rows.length)) (hr:p=vZ (rows.map (·.2))):(p.map fun i=>rows.getD i (0,[])).map (·.2)=wg (rows.map (·.2)):=by
 unfold wg
 rw [←hr,List.map_map]
 refine List.map_congr_left fun i hi=>?_
 have hlt:=List.mem_range.mp (h.mem_iff.mp hi)
 simp [List.getD,hlt]
section
variable {X:Cx}
theorem Ai {prog:Program} {w:World} {A:Around} {s':Shared} {rows:List Row} {sh:List Bool} (ha:∀r∈rows,TupAt s'.heap r∧r.2.map eZ=sh) {i j:Nat} (hi:i < rows.length) (hj:j < rows.length) (C:Bool→Shared→Prop) (q:C (rH rows i j) s'):
  kas_ask prog w A (tuples' true) (rows.map fun r=>Value.ref r.1) i j C s':=by
 refine Pg ha hi hj C ?_
 have e1:rG rows i=rowAt rows i:=by simp [rG,rowAt,List.getD,hi]
 have e2:rG rows j=rowAt rows j:=by simp [rG,rowAt,List.getD,hj]
 unfold rH at q
 rw [e1,e2] at q
 exact q
theorem oX:cI X (.builtin "sorted") (fun xs H Q=>∃(p:Addr) (rows:List Row) (b:Bool) (sh:List Bool),xs=[.ref p]∧cJ X.K H p (rows.map fun r=>V.ref r.1)∧rows.length < 64∧(∀r∈rows,H r.1=some (.tup (r.2.map kV))∧r.2.map eZ=b::sh)∧
  ∀(l:Addr) (rows':List Row),H l=none→rows'.Perm rows→rows'.map (·.2)=wg (rows.map (·.2))→Q (.ref l) (upd H l (.lst (rows'.map fun r=>V.ref r.1)))):=by
 intro pins s σ H xs us Q I r h
 obtain ⟨p,rows,b,sh,rfl,hp,h64,ha,q⟩:=h
 obtain ⟨u,rfl,ru⟩:=vals1 r
 cases ru
 obtain ⟨its,rv,pl,_⟩:=I.list hp
 have e0:=FP rv
 subst e0
 have tu:∀r∈rows,TupAt s.heap r∧r.2.map eZ=b::sh:=fun r hr=>by
  obtain ⟨_,its,v,t⟩:=(show bV X.prog X.w H s.heap r.1 (.tup (r.2.map kV)) from I.hok r.1 _ (ha r hr).1)
  exact ⟨⟨its,v,t⟩,(ha r hr).2⟩
 refine rF (κ:=tuples' true) (lt:=rH rows) (vs:=rows.map fun r=>Value.ref r.1) (Rl:=fun p=>p=vZ (rows.map (·.2))) (by simpa using h64) (fun h2=>wY (by rw [List.length_map]) h2) (fun h2=>uo (by rw [List.length_map]) h2) (fun R hR=>?_) (fun h2 s' k Q' q'=>wW (fun r hr=>⟨(tu r hr).1.keep k,(tu r hr).2⟩) (by rw [List.length_map] at h2; omega) Q' q')
  (fun h2 s' k i j hi hj C q'=>Ai (sh:=b::sh) (fun r hr=>⟨(tu r hr).1.keep k,(tu r hr).2⟩) (by simpa using hi) (by simpa using hj) C q') fun p D h' c tk hp' hrl hD k e=>?_
 ·refine collect_list pl.isList (hR _ _ s.toks ?_ (fun b o e=>?_) rfl)
  ·rw [Heap.size_update,size_push']
   omega
  ·have hlt:b≠s.heap.objs.size:=Nat.ne_of_lt (Heap.lt_size e)
   rw [Heap.get?_update_ne _ _ _ _ hlt]
   exact Heap.get?_push_of_some _ e
 ·rw [List.length_map] at hp'
  rw [wX hp'] at e
  refine ⟨.ref D,_,I.laid (o:=.lst ((p.map fun i=>rows.getD i (0,[])).map fun r=>V.ref r.1)) k hD ⟨?_,_,c,qw _,by simpa [seqObj] using e⟩,rfl,q D _ (I.hok.fresh hD) (qu hp') (FQ hp' hrl)⟩
  rw [List.length_map,List.length_map,hp'.length_eq,List.length_range,sizeLine_eq]
  omega
theorem jW (hc:X.calm=true):cI X (.builtin "sorted") (fun xs H Q=>∃(d:Addr) (kvs:List (List Key×V)) (b:Bool) (sh:List Bool),xs=[.ref d]∧H d=some (.dT kvs)∧kvs.length < 64∧(∀kv∈kvs,kv.1.map eZ=b::sh)∧
  ∀(l:Addr) (rows:List Row),H l=none→(rows.map (·.2)).Perm (kvs.map (·.1))→rows.map (·.2)=wg (kvs.map (·.1))→(∀r∈rows,H r.1=some (.tup (r.2.map kV)))→Q (.ref l) (upd H l (.lst (rows.map fun r=>V.ref r.1)))):=by
 intro pins s σ H xs us Q I r h
 obtain ⟨d,kvs,b,sh,rfl,hd,h64,ha,q⟩:=h
 obtain ⟨u,rfl,ru⟩:=vals1 r
 cases ru
 obtain ⟨z,lo,ys,rel,o,es,ep,g1,g2,g3,g4,g5,g6⟩:=Rv I.hok hd
 have raw:Ad s.heap d es ep:=⟨o,g1,g2,g3⟩
 obtain ⟨rows,r1,r2,r3⟩:∃rows:List Row,rows.map (·.2)=kvs.map (·.1)∧(∀r∈rows,H r.1=some (.tup (r.2.map kV)))∧es.toList.map (·.key)=rows.map fun r=>Value.ref r.1:=by
  clear g5 g6 h64 ha q z hd
  rw [g4]
  clear g4 raw g3
  induction rel with
  | nil=>exact ⟨[],rfl,by simp,rfl⟩
  | @cons p q ps qs h t ih=>
   obtain ⟨rows,a1,a2,a3⟩:=ih
   refine ⟨(q.2.1,p.1)::rows,by simp [a1],fun r hr=>?_,?_⟩
   ·rcases List.mem_cons.mp hr with rfl | hr
    ·exact h.2.1
    ·exact a2 r hr
   ·rw [List.map_cons,List.map_cons,a3]
    rfl
 have hlen:rows.length=kvs.length:=by
  have:=congrArg List.length r1
  simpa using this
 have hes:es.size=rows.length:=by
  have:=congrArg List.length r3
  simpa using this
 have tu:∀r∈rows,TupAt s.heap r∧r.2.map eZ=b::sh:=fun r hr=>by
  obtain ⟨_,its,v,t⟩:=(show bV X.prog X.w H s.heap r.1 (.tup (r.2.map kV)) from I.hok r.1 _ (r2 r hr))
  have:r.2∈kvs.map (·.1):=by rw [←r1]; exact List.mem_map.mpr ⟨r,hr,rfl⟩
  obtain ⟨kv,hk,e⟩:=List.mem_map.mp this
  exact ⟨⟨its,v,t⟩,by rw [←e]; exact ha kv hk⟩
 refine rF (κ:=tuples' true) (lt:=rH rows) (vs:=rows.map fun r=>Value.ref r.1) (Rl:=fun p=>p=vZ (rows.map (·.2))) (by rw [List.length_map]; omega) (fun h2=>wY (by rw [List.length_map]) h2) (fun h2=>uo (by rw [List.length_map]) h2) (fun R hR=>?_) (fun h2 s' k Q' q'=>wW (fun r hr=>⟨(tu r hr).1.keep k,(tu r hr).2⟩) (by rw [List.length_map] at h2; omega) Q' q')
  (fun h2 s' k i j hi hj C q'=>Ai (sh:=b::sh) (fun r hr=>⟨(tu r hr).1.keep k,(tu r hr).2⟩) (by simpa using hi) (by simpa using hj) C q') fun p D h' c tk hp' hrl hD k e=>?_
 ·refine Ae (Pb (es:=es) (ep:=ep) lo) (I.ok.hd hc) raw (by rw [sizeLine_eq]; omega) fun h' tk acc hsz kk hacc=>hR _ h' tk hsz kk ?_
  refine List.ext_getElem? fun i=>?_
  by_cases hi:i < es.size
  ·have e1:acc.size=es.size:=hacc.1
   have:=hacc.2 i (acc[i]'(by omega)) (by simp [e1,hi])
   rw [Array.getElem?_toList,Array.getElem?_eq_getElem (by omega)]
   rw [←this,←r3,List.getElem?_map,Array.getElem?_toList]
  ·have e1:acc.size=es.size:=hacc.1
   rw [List.getElem?_eq_none (by simp; omega),List.getElem?_eq_none (by simp; omega)]
 ·rw [List.length_map] at hp'
  rw [wX hp'] at e
  refine ⟨.ref D,_,I.laid (o:=.lst ((p.map fun i=>rows.getD i (0,[])).map fun r=>V.ref r.1)) k hD ⟨?_,_,c,qw _,by simpa [seqObj] using e⟩,rfl,q D _ (I.hok.fresh hD) (((qu hp').map _).trans (by rw [r1])) ((FQ hp' hrl).trans (by rw [r1])) fun r hr=>r2 r ((qu hp').mem_iff.mp hr)⟩
  rw [List.length_map,List.length_map,hp'.length_eq,List.length_range,sizeLine_eq]
  omega
end
end L2
namespace L2
open PySem PySem.Spec PyProof.Rows PySem.W
noncomputable abbrev uq:=List (Option PyData)
noncomputable def kY (H:Hp) (Γ:uq) (σ:St):Prop:=σ.length=Γ.length∧∀(i:Nat) (d:PyData),Γ[i]?=some (some d)→∃v,σ[i]?=some (some v)∧RX H d v
theorem kY.same {H H':Hp} {Γ:uq} {σ:St} (h:kY H Γ σ) (s:aV H H'):kY H' Γ σ:=⟨h.1,fun i d e=>let ⟨v,a,b⟩:=h.2 i d e; ⟨v,a,b.same s⟩⟩
theorem kY.set {H:Hp} {Γ:uq} {σ:St} (h:kY H Γ σ) {i:Nat} {d:PyData} {v:V} (hv:RX H d v):kY H (Γ.set i (some d)) (σ.set i (some v)):=by
 refine ⟨by rw [List.length_set,List.length_set]; exact h.1,fun j e he=>?_⟩
 by_cases hj:i=j
 ·subst hj
  rw [List.getElem?_set] at he
  simp only [if_true] at he
  split at he
  ·rename_i hl
   cases he
   refine ⟨v,?_,hv⟩
   rw [List.getElem?_set]
   simp only [if_true]
   rw [if_pos (by rw [h.1]; exact hl)]
  ·cases he
 ·rw [List.getElem?_set_ne hj] at he
  rw [List.getElem?_set_ne hj]
  exact h.2 j e he
noncomputable def er (Z:List Addr) (H:Hp):Hp:=fun b=>if b∈Z then none else H b
theorem bL {Z:List Addr} {H:Hp} {b:Addr} {o:HO} (h:er Z H b=some o):H b=some o:=by
 unfold er at h
 split at h
 ·cases h
 ·exact h
theorem rJ (Z:List Addr) (H:Hp):aV (er Z H) H:=fun b o h=>bL h
theorem sX {Z:List Addr} {H H':Hp} (s:aV H H'):aV (er Z H) (er Z H'):=fun b o h=>by
 unfold er at h ⊢
 split at h
 ·cases h
 ·rename_i n
  rw [if_neg n]
  exact s _ _ h
theorem ur (H:Hp):er [] H=H:=by
 funext b
 simp [er]
noncomputable def yK (t:TE) (Γ:uq) (d:PyData):Prop:=∀Z σ H (Q:VK),(∀b,b∈Z→H b≠none)→kY (er Z H) Γ σ→(∀v H',aV H H'→RX (er Z H') d v→Q v H')→t σ H Q
noncomputable def FW (t:TA) (Γ:uq) (ds:List PyData):Prop:=∀Z σ H (Q:List V→Hp→Prop),(∀b,b∈Z→H b≠none)→kY (er Z H) Γ σ→(∀vs H',aV H H'→Ag (er Z H') ds vs→Q vs H')→t σ H Q
section
variable {Γ:uq} {K:PySem.W.Frag}
theorem yK.run {t:TE} {d:PyData} (h:yK t Γ d) {σ:St} {H:Hp} {Q:VK} (e:kY H Γ σ) (q:∀v H',aV H H'→RX H' d v→Q v H'):t σ H Q:=
 h [] σ H Q (fun _ m=>by cases m) (by rw [ur]; exact e) fun v H' s r=>q v H' s (by rw [ur] at r; exact r)
end
end L2
namespace HT
open PySem PySem.Spec PyProof.Rows
section
variable {prog:Program} {w:World} {A:Around} {E:Value→Shared→Prop} {s:Shared}
theorem mX {t sl:Addr} {items:Array Value} {vl vu:Value} {lo hi:Option Int} {Q:Value→Shared→Prop} (ht:IsTup s.heap t items) (hs:s.heap.IsSliceOf sl vl vu .none) (pl:IsPart vl lo) (pu:IsPart vu hi)
  (hw:dN items.size 0 lo=0∧dN items.size items.size hi=items.size) (h:Q (.ref t) s):wpAny (model prog w) A (getItem (.ref t) (.ref sl)) Q E s:=by
 obtain ⟨os,hos,hcs,hds⟩:=id hs
 have hTs:s.TypeIs (.ref sl) "slice":=⟨os,hos,hcs⟩
 unfold getItem
 try with_reducible refine wpAny_holding ?_
 first | refine wpAny_bind (wpAny_pure ?_) | skip
 refine wpAny_bind (wpAny_sequenceKey ht.typeIs (by decide) ?_)
 refine wpAny_bind (wpAny_callSpecial?_slot (name:=Str.ofString "__getitem__") ht.typeIs PyProof.Rows.slot_tuple_getitem
  (wpAny_call_entry PyProof.Rows.slot_tuple_getitem ht.typeIs entry_tuple_getitem ?_ (args_tuple_getitem _ _)))
 show wpAny _ _ (Builtin.Tuple.tupleItemsOf (.ref t) >>= _) _ _ s
 refine wpAny_bind (tupleItemsOf_ ht ?_)
 refine wpAny_bind (wpAny_typeOf hTs ?_)
 rw [if_pos (by decide)]
 refine wpAny_bind (jo hs pl pu ?_)
 have hyes:((((dN items.size 0 lo:Nat):Int)==0&&(1:Int)==1&&(dN items.size items.size hi - dN items.size 0 lo)==items.size)=true):=by
  rw [hw.1,hw.2]
  simp
 show wpAny _ _ (if (((dN items.size 0 lo:Nat):Int)==0&&(1:Int)==1&&(dN items.size items.size hi - dN items.size 0 lo)==items.size)=true then _ else _) _ _ s
 rw [if_pos hyes]
 unfold Builtin.Tuple.tupleIsExact
 refine wpAny_bind (wpAny_bind (wpAny_typeOf ht.typeIs (wpAny_pure ?_)))
 rw [if_pos (by decide)]
 refine wpAny_bind (wpAny_rule ?_)
 exact wpAny_pure ⟨_,rfl,wpAny_pure h⟩
end
end HT
namespace L2
open PySem PySem.Spec PyProof.Rows PySem.W
section
variable {X:Cx}
noncomputable def Y9 (K:PySem.W.Frag):V→Option Int→Option Int→Hp→VK→Prop:=fun x lo hi H Q=>∃a xs,x=.ref a∧gw K H a xs∧(t8 xs lo hi=xs→Q (.ref a) H)∧∀p,H p=none→Q (.ref p) (upd H p (.tup (t8 xs lo hi)))
theorem Pj:Oz X (Y9 X.K):=by
 intro pins s σ H x v vl vu lo hi sl Q I rx hs pl pu h
 obtain ⟨a,xs,rfl,hx,q1,q2⟩:=h
 by_cases hw:HT.dN xs.length 0 lo=0∧HT.dN xs.length xs.length hi=xs.length
 ·cases rx
  obtain ⟨its,r,ht,hz⟩:=I.tuple hx
  have hlen:its.toArray.size=xs.length:=by rw [List.size_toArray]; exact r.length.symm
  refine ⟨"tuple",_,PyProof.Rows.slot_tuple_getitem.lookup,ht.typeIs,?_⟩
  refine HT.mX ht hs pl pu (by rw [hlen]; exact hw) ?_
  refine ⟨.ref a,H,I,rfl,q1 ?_⟩
  unfold t8
  rw [hw.1,hw.2]
  simp
 ·exact TY pins s σ H _ v vl vu lo hi sl Q I rx hs pl pu ⟨a,xs,rfl,hx,hw,q2⟩
end
end L2
namespace HT
open PySem PySem.Spec PyProof.Rows
open Sem (wp)
open Builtin
end HT
namespace L2
open PySem PySem.Spec PyProof.Rows PySem.W
section
variable {X:Cx}
end
end L2
namespace L2
open PySem PySem.Spec PyProof.Rows PySem.W
section
variable {Γ:uq} {K:PySem.W.Frag}
end
end L2
namespace L2
open PySem PySem.Spec PyProof.Rows PySem.W
section
variable {Γ:uq} {K:PySem.W.Frag}
end
end L2
namespace L2
open PySem PySem.Spec PyProof.Rows PySem.W
section
variable {Γ:uq} {K:PySem.W.Frag}
end
end L2
namespace L2
open PySem PySem.Spec PyProof.Rows PySem.W
section
variable {X:Cx}
theorem Dn (hu:X.A.units + 64 < cLine):gA X (compareOp .NotEq) (fun x y H Q=>∃d e,RX H d x∧RX H e y∧PySem.SeqAt.shaped d=true∧PySem.SeqAt.shaped e=true∧Q (.bl (!PyData.eqv d e)) H):=by
 intro pins s σ H x y v u Q I rx ry h
 obtain ⟨d,e,hd,he,h1,h2,q⟩:=h
 obtain ⟨as,ra⟩:=RD.reads I (hd.rd (K:=X.K)) rx
 obtain ⟨bs,rb⟩:=RD.reads I (he.rd (K:=X.K)) ry
 exact ne_dataH ra rb h1 h2 hu ⟨.bl _,H,I,rfl,q⟩
end
section
variable {Γ:uq} {K:PySem.W.Frag}
noncomputable def Uo (t:TE) (Γ:uq) (d:PyData):Prop:=∀σ H (Q:VK),kY H Γ σ→(∀v H',aV H H'→RX H' d v→Q v H')→t σ H Q
theorem yK.r {t:TE} {d:PyData} (h:yK t Γ d):Uo t Γ d:=fun σ H Q e q=>h.run e q
theorem FW.run {t:TA} {ds:List PyData} (h:FW t Γ ds) {σ:St} {H:Hp} {Q:List V→Hp→Prop} (e:kY H Γ σ) (q:∀vs H',aV H H'→Ag H' ds vs→Q vs H'):t σ H Q:=
 h [] σ H Q (fun _ m=>by cases m) (by rw [ur]; exact e) fun v H' s r=>q v H' s (by rw [ur] at r; exact r)
end
end L2
namespace L2
open PySem PySem.Spec PyProof.Rows PySem.W
theorem sY {xs:Array Nat} (h:xs.toList.Pairwise (· < ·)) {i k d:Nat} (hik:i < k) (hk:k < xs.size):xs.getD i d < xs.getD k d:=by
 have h1:=List.pairwise_iff_getElem.mp h i k (by simpa using Nat.lt_trans hik hk) (by simpa using hk) hik
 have hi:i < xs.size:=Nat.lt_trans hik hk
 rw [Array.getD_eq_getD_getElem?,Array.getD_eq_getD_getElem?,Array.getElem?_eq_getElem hk,Array.getElem?_eq_getElem hi]
 simpa using h1
theorem uv {xs:Array Nat} {j:Nat} (h:xs.toList.Pairwise (· < ·)):∀f lo hi,lo≤hi→hi≤xs.size→hi - lo≤f→(∀i,i < lo→xs.getD i j < j)→(∀i,hi≤i→i < xs.size→j≤xs.getD i j)→
  SetTable.below.go xs j f lo hi≤xs.size∧(∀i,i < SetTable.below.go xs j f lo hi→xs.getD i j < j)∧∀i,SetTable.below.go xs j f lo hi≤i→i < xs.size→j≤xs.getD i j
 | 0,lo,hi,h1,h2,h3,h4,h5=>by
  unfold SetTable.below.go
  exact ⟨by omega,h4,fun i a b=>h5 i (by omega) b⟩
 | f + 1,lo,hi,h1,h2,h3,h4,h5=>by
  unfold SetTable.below.go
  by_cases hlt:lo < hi
  ·rw [if_pos hlt]
   dsimp only
   by_cases hm:xs.getD ((lo + hi) / 2) j < j
   ·rw [if_pos hm]
    refine uv h f _ _ (by omega) h2 (by omega) (fun i hi'=>?_) h5
    by_cases e:i=(lo + hi) / 2
    ·rw [e]; exact hm
    ·exact Nat.lt_trans (sY h (by omega) (by omega)) hm
   ·rw [if_neg hm]
    refine uv h f _ _ (by omega) (by omega) (by omega) h4 (fun i hi' hs=>?_)
    by_cases e:i=(lo + hi) / 2
    ·rw [e]; omega
    ·have:=sY (d:=j) h (show (lo + hi) / 2 < i by omega) hs
     omega
  ·rw [if_neg hlt]
   exact ⟨by omega,h4,fun i a b=>h5 i (by omega) b⟩
theorem qx {xs:Array Nat} (j:Nat) (h:xs.toList.Pairwise (· < ·)):SetTable.below xs j≤xs.size∧(∀i,i < SetTable.below xs j→xs.getD i j < j)∧∀i,SetTable.below xs j≤i→i < xs.size→j≤xs.getD i j:=
 uv h xs.size 0 xs.size (Nat.zero_le _) (Nat.le_refl _) (by omega) (fun i hi=>by omega) (fun i a b=>by omega)
theorem FZ {xs:Array Nat} (h:xs.toList.Pairwise (· < ·)):SetTable.below xs 0=0:=by
 obtain ⟨_,b,_⟩:=qx 0 h
 cases e:SetTable.below xs 0 with
 | zero=>rfl
 | succ n=>have:=b 0 (by omega); omega
theorem uw {xs:Array Nat} (h:xs.toList.Pairwise (· < ·)) {i:Nat} (hi:i < xs.size):SetTable.below xs (xs[i] + 1)=i + 1:=by
 obtain ⟨a,b,c⟩:=qx (xs[i] + 1) h
 have e:∀k d,(hk:k < xs.size)→xs.getD k d=xs[k]:=fun k d hk=>by rw [Array.getD_eq_getD_getElem?,Array.getElem?_eq_getElem hk]; rfl
 have mono:∀p q,(hp:p < xs.size)→(hq:q < xs.size)→p < q→xs[p] < xs[q]:=fun p q hp hq pq=>by
  have:=sY (d:=0) h pq hq
  rwa [e p 0 hp,e q 0 hq] at this
 by_cases h1:SetTable.below xs (xs[i] + 1)≤i
 ·have:=c i h1 hi
  rw [e i _ hi] at this
  omega
 ·by_cases h2:SetTable.below xs (xs[i] + 1)=i + 1
  ·exact h2
  ·have hs:i + 1 < xs.size:=by omega
   have:=b (i + 1) (by omega)
   rw [e _ _ hs] at this
   have:=mono i (i + 1) hi hs (by omega)
   omega
structure gG (b:Bool) (t:SetTable):Prop where
 led:t.led=b
 Za:t.dummies=#[]
 Zb:t.place.toList.Pairwise (· < ·)
theorem gG.standIn {b:Bool} {t:SetTable} (h:gG b t) (n:Nat):gG b (t.standIn n):=⟨h.led,rfl,by simpa [SetTable.standIn] using List.pairwise_lt_range⟩
theorem gG.orStandIn {b:Bool} {t:SetTable} (h:gG b t) (n:Nat):gG b (t.orStandIn n):=by
 unfold SetTable.orStandIn
 split
 ·exact h
 ·exact h.standIn n
theorem has_none (j:Nat):SetTable.has #[] j=false:=rfl
theorem ux {t:SetTable} (hd:t.dummies=#[]) (f:Nat→Int) (h:Int):∀fuel (p:SetTable.Probe) j d,p.dummy=none→SetTable.probe.go t f h fuel p=some (.empty j d)→d=none∧t.slot j=.empty
 | 0,p,j,d,_,e=>by simp [SetTable.probe.go] at e
 | fuel + 1,p,j,d,hp,e=>by
  unfold SetTable.probe.go at e
  have adv:(t.advance p).dummy=none:=by
   unfold SetTable.advance
   split <;> exact hp
  cases hs:t.slot p.j with
  | empty=>
   rw [hs] at e
   simp only [Option.some.injEq,SetTable.Met.empty.injEq] at e
   exact ⟨by rw [←e.2]; exact hp,by rw [←e.1]; exact hs⟩
  | dummy=>
   unfold SetTable.slot at hs
   rw [hd] at hs
   simp only [has_none] at hs
   split at hs
   ·cases hs
   ·simp at hs
  | live i=>
   rw [hs] at e
   simp only at e
   split at e
   ·cases e
   ·exact ux hd f h fuel _ j d adv e
theorem Dp {xs:Array Nat} {j:Nat} (h:xs.toList.Pairwise (· < ·)) (hn:xs[SetTable.below xs j]?≠some j):(SetTable.insertAt xs (SetTable.below xs j) j).toList.Pairwise (· < ·):=by
 obtain ⟨a,b,c⟩:=qx j h
 rw [SetTable.toList_insertAt]
 have h':=h
 rw [←List.take_append_drop (SetTable.below xs j) xs.toList,List.pairwise_append] at h'
 obtain ⟨h1,h2,h3⟩:=h'
 have e:∀k d,(hk:k < xs.size)→xs.getD k d=xs.toList[k]'(by simpa using hk):=fun k d hk=>by rw [Array.getD_eq_getD_getElem?,Array.getElem?_eq_getElem hk]; simp
 have lo:∀x,x∈xs.toList.take (SetTable.below xs j)→x < j:=fun x hx=>by
  obtain ⟨i,hi,rfl⟩:=List.getElem_of_mem hx
  have hi':i < SetTable.below xs j:=by simp at hi; omega
  have:=b i hi'
  rw [e i j (by omega)] at this
  rw [List.getElem_take]
  exact this
 have hi:∀x,x∈xs.toList.drop (SetTable.below xs j)→j < x:=fun x hx=>by
  obtain ⟨i,hi,rfl⟩:=List.getElem_of_mem hx
  have hs:SetTable.below xs j + i < xs.size:=by simp at hi; omega
  have h0:=c (SetTable.below xs j) (Nat.le_refl _) (by omega)
  have ne:xs.getD (SetTable.below xs j) j≠j:=fun z=>hn (by
   have hb:SetTable.below xs j < xs.size:=by omega
   rw [Array.getD_eq_getD_getElem?,Array.getElem?_eq_getElem hb] at z
   rw [Array.getElem?_eq_getElem hb]
   simpa using z)
  rw [List.getElem_drop,←e _ j hs]
  by_cases z:i=0
  ·subst z
   simp only [Nat.add_zero]
   omega
  ·have:=sY (d:=j) h (show SetTable.below xs j < SetTable.below xs j + i by omega) hs
   omega
 rw [List.pairwise_append]
 refine ⟨h1,List.pairwise_cons.mpr ⟨hi,h2⟩,fun x hx y hy=>?_⟩
 rcases List.mem_cons.mp hy with rfl | hy
 ·exact lo x hx
 ·exact h3 x hx y hy
theorem gG.layNew {b:Bool} {t:SetTable} (h:gG b t) (es:Array (Int×Value)) (hs:Int) (x:Value):gG b (layNew t es hs x).2.1:=by
 unfold PySem.layNew
 cases hf:t.freeSlot hs with
 | none=>exact h.standIn _
 | some q=>
  obtain ⟨slot,wd⟩:=q
  have free:t.slot slot=.empty:=by
   unfold SetTable.freeSlot at hf
   split at hf
   ·rename_i j d hp
    obtain ⟨rfl,hj⟩:=ux h.Za _ _ _ _ _ _ rfl hp
    simp only [Option.some.injEq,Prod.mk.injEq] at hf
    rw [←hf.1]
    exact hj
   ·cases hf
  have hn:t.place[SetTable.below t.place slot]?≠some slot:=fun z=>by
   unfold SetTable.slot at free
   simp [z] at free
  show gG b ((t.put slot).1.orStandIn _)
  refine gG.orStandIn (t:=(t.put slot).1) ⟨h.led,?_,Dp h.Zb hn⟩ _
  show (if SetTable.has t.dummies slot then _ else t.dummies)=#[]
  rw [h.Za]
  rfl
theorem gG.relayAll {b:Bool} {t:SetTable} (h:gG b t) (es:Array (Int×Value)) (n:Nat):gG b (relayAll t es n).2.1:=by
 unfold PySem.relayAll
 split
 ·rename_i t' order hr
  dsimp only
  split
  ·unfold SetTable.relaid SetTable.laid at hr
   cases ho:SetTable.layClean (SetTable.sizeAbove n - 1) (es.map (·.1)) with
   | none=>simp [ho] at hr
   | some owner=>
    simp only [ho,Option.bind_eq_bind,Option.bind_some,Option.pure_def,Option.some.injEq,Prod.mk.injEq] at hr
    rw [←hr.1]
    refine ⟨h.led,rfl,?_⟩
    simp only [List.map_filterMap]
    refine List.Pairwise.filterMap _ (fun x y hxy=>?_) List.pairwise_lt_range
    intro u hu v hv
    simp only [Option.map_eq_some_iff] at hu hv
    obtain ⟨p,⟨_,_,rfl⟩,rfl⟩:=hu
    obtain ⟨q,⟨_,_,rfl⟩,rfl⟩:=hv
    exact hxy
  ·exact h.standIn _
 ·exact h.standIn _
theorem gG.plain {b:Bool} {t:SetTable} (h:gG b t) (v:Bool):gG b { t with plain:=v }:=⟨h.led,h.Za,h.Zb⟩
theorem gG.fresh (b:Bool):gG b (.fresh 0 0 b):=⟨rfl,rfl,.nil⟩
end L2
namespace L2
open PySem PySem.Spec PySem.W
section
variable {prog:Program} {w:World} {T:Type} [DecidableEq T] (knd:PySem.KeyKind prog w T)
noncomputable def bt (w:World):Bool:=!(w.params.followText "set-order")
inductive vR:List (Int×Value)→List T→Prop
 | nil:vR [] []
 | cons {e:Int×Value} {k:T} {es:List (Int×Value)} {ks:List T}:(knd.is k e.2=true∧e.1=knd.hash k∧e.2.scannable=true)→vR es ks→vR (e::es) (k::ks)
noncomputable def iw (h:Heap) (a:Addr) (ks:List T):Prop:=∃o es ep t,h.get? a=some o∧o.ExactSet∧o.data=.set es ep t∧(∃ks',vR knd es.toList ks'∧ks'.Perm ks)∧es.size < scanBound∧t.fits es.size=true∧gG (bt w) t
noncomputable def jC (ks:List T) (k:T):List T:=if k∈ks then ks else ks++[k]
variable {knd}
theorem vR.elems {es:List (Int×Value)} {ks:List T} (h:vR knd es ks):ElemsOf knd es:=by
 induction h with
 | nil=>intro e he; cases he
 | cons a _ ih=>
  intro e he
  rcases List.mem_cons.mp he with rfl | he
  ·exact ⟨⟨_,a.1,a.2.1⟩,a.2.2⟩
  ·exact ih e he
theorem vR.len {es:List (Int×Value)} {ks:List T} (h:vR knd es ks):es.length=ks.length:=by
 induction h with
 | nil=>rfl
 | cons _ _ ih=>simp [ih]
theorem vR.perm {es es':List (Int×Value)} (p:es'.Perm es):∀{ks:List T},vR knd es ks→∃ks',vR knd es' ks'∧ks'.Perm ks:=by
 induction p with
 | nil=>intro ks h; exact ⟨ks,h,.refl _⟩
 | cons x _ ih=>
  intro ks h
  cases h with
  | cons a r=>
   obtain ⟨ks',h1,h2⟩:=ih r
   exact ⟨_::ks',.cons a h1,h2.cons _⟩
 | swap x y l=>
  intro ks h
  cases h with
  | cons a r=>
   cases r with
   | cons b r=>exact ⟨_::_::_,.cons b (.cons a r),.swap ..⟩
 | trans _ _ ih1 ih2=>
  intro ks h
  obtain ⟨k2,h1,p1⟩:=ih2 h
  obtain ⟨k3,h2,p2⟩:=ih1 h1
  exact ⟨k3,h2,p2.trans p1⟩
theorem vR.push {es:List (Int×Value)} {ks:List T} (h:vR knd es ks) {k:T} {x:Value} (hk:knd.is k x=true) (hx:x.scannable=true):vR knd (es++[(knd.hash k,x)]) (ks++[k]):=by
 induction h with
 | nil=>exact .cons ⟨hk,rfl,hx⟩ .nil
 | cons a _ ih=>exact .cons a ih
theorem vR.mem {es:List (Int×Value)} {ks:List T} (h:vR knd es ks) {k:T} {x:Int×Value} (hm:x∈es) (hp:knd.is k x.2=true):k∈ks:=by
 induction h with
 | nil=>cases hm
 | cons a _ ih=>
  rcases List.mem_cons.mp hm with rfl | hm
  ·cases knd.inj _ _ _ hp a.1
   exact List.mem_cons_self ..
  ·exact List.mem_cons_of_mem _ (ih hm)
theorem vR.none {es:List (Int×Value)} {ks:List T} (h:vR knd es ks) {k:T} (e:es.findIdx? (fun e=>knd.is k e.2)=.none):k∉ks:=by
 have e':=List.findIdx?_eq_none_iff.mp e
 clear e
 induction h with
 | nil=>intro h; cases h
 | cons a _ ih=>
  intro hm
  rcases List.mem_cons.mp hm with rfl | hm
  ·have:=e' _ (List.mem_cons_self ..)
   rw [a.1] at this
   cases this
  ·exact ih (fun x hx=>e' x (List.mem_cons_of_mem _ hx)) hm
variable {A:Around} {E:Value→Shared→Prop} {s:Shared}
theorem Ga {h:Heap} {a:Addr} {o:Obj} {es es':Array (Int×Value)} {ep:Nat} {t t':SetTable} {ks:List T} (ho:h.get? a=some o) (ex:o.ExactSet) (hd:o.data=.set es ep t) (e:∃ks',vR knd es'.toList ks'∧ks'.Perm ks)
  (hb:es'.size < scanBound) (hf:t'.fits es'.size=true) (tb:gG (bt w) t'):
  ∃o',(h.update a (Obj.putSet es' t')).get? a=some o'∧o'.ExactSet∧o'.data=.set es' (ep + 1) t'∧iw knd (h.update a (Obj.putSet es' t')) a ks:=by
 have g:=Heap.get?_update_self (Obj.putSet es' t') ho (by rw [putSet_of es' t' hd]; rfl)
 rw [putSet_of es' t' hd] at g
 exact ⟨_,g,ex,rfl,_,es',ep + 1,t',g,ex,rfl,e,hb,hf,tb⟩
theorem Gb {a:Addr} {k:T} {x:Value} {ks:List T} {Q:Bool→Shared→Prop} (hk:knd.is k x=true) (hx:x.scannable=true) (hS:iw knd s.heap a ks) (room:ks.length + 1 < scanBound)
  (h:∀b h',Heap.SameBut a s.heap h'→iw knd h' a (jC ks k)→Q b { s with heap:=h' }):wpAny (model prog w) A (setAddHashed a x (knd.hash k)) Q E s:=by
 obtain ⟨o,es,ep,t,ho,ex,hd,⟨k0,ek,pk⟩,hb,hf,tb⟩:=hS
 have sz:es.size=ks.length:=by rw [←Array.length_toList,ek.len,pk.length_eq]
 have el:=ek.elems
 have mono:∀{u:Unit→Shared→Prop} {s1:Shared} (g:Bool),u () s1→∀r:Sem Unit,(r=rule "set.scan.the-table-gave-way"∨r=pure ())→wpAny (model prog w) A r u E s1:=fun g hu r hr=>by
  rcases hr with rfl | rfl
  ·exact wpAny_rule hu
  ·exact wpAny_pure hu
 unfold setAddHashed setAddHashedIn
 refine wpAny_holding (wpAny_bind (wpAny_setState_of ho hd hf ?_))
 simp only [byScan_of hx hb el,if_true]
 unfold setAddByScan
 refine wpAny_bind (wpAny_bind (wpAny_rule (wpAny_bind (wpAny_setScan_of hk ho hd hf el ?_))))
 cases hr:es.toList.findIdx? (fun e=>knd.is k e.2) with
 | some j=>
  obtain ⟨hj,hp,_⟩:=List.findIdx?_eq_some_iff_getElem.mp hr
  have hm:k∈ks:=pk.mem_iff.mp (ek.mem (List.getElem_mem hj) hp)
  refine wpAny_pure (wpAny_pure (h _ s.heap (Heap.SameBut.refl a s.heap) ?_))
  rw [jC,if_pos hm]
  exact ⟨o,es,ep,t,ho,ex,hd,⟨k0,ek,pk⟩,hb,hf,tb⟩
 | none=>
  have hm:k∉ks:=fun z=>ek.none hr (pk.mem_iff.mpr z)
  have pn:=layNew_perm t es (knd.hash k) x
  have fn:=layNew_fits t es (knd.hash k) x
  have tn:=tb.layNew es (knd.hash k) x
  dsimp only
  generalize layNew t es (knd.hash k) x=L at pn fn tn ⊢
  obtain ⟨es1,t1,wd,gv⟩:=L
  dsimp only at pn fn tn ⊢
  rw [Array.toList_push] at pn
  obtain ⟨k1,e1,p1⟩:=(ek.push hk hx).perm pn
  have ak:jC ks k=ks++[k]:=by rw [jC,if_neg hm]
  have q1:∃ks',vR knd es1.toList ks'∧ks'.Perm (jC ks k):=⟨k1,e1,by rw [ak]; exact p1.trans (pk.append_right _)⟩
  have RB:es1.size=es.size + 1:=by rw [←Array.length_toList,pn.length_eq,List.length_append,Array.length_toList]; rfl
  have b1:es1.size < scanBound:=by omega
  refine wpAny_bind (mono gv ?_ _ (by cases gv <;> first | exact .inl rfl | exact .inr rfl))
  have tail:∀t2:SetTable,t2.fits es1.size=true→gG (bt w) t2→wpAny (model prog w) A (do
    storeSet a es1 t2
    if (!wd&&t2.tooFull)=true then do
      (match (PySem.relayAll t2 es1 (SetTable.grown es1.size)).2.2 with | true=>rule "set.scan.the-table-gave-way" | false=>pure ())
      storeSet a (PySem.relayAll t2 es1 (SetTable.grown es1.size)).1 (PySem.relayAll t2 es1 (SetTable.grown es1.size)).2.1
      pure (some true)
     else pure (some true)) (fun r s'=>wpAny (model prog w) A (match r with | some added=>pure added | none=>setAddHashedIn a x (knd.hash k) 99999) Q E s') E s:=fun t2 f2 tb2=>by
   obtain ⟨o1,g1,ex1,d1,S1⟩:=Ga (knd:=knd) ho ex hd q1 b1 f2 tb2
   refine wpAny_bind (wpAny_storeSet_of ho hd ?_ (fits_of_scanBound b1))
   have uy:=Heap.SameBut.update s.heap a (Obj.putSet es1 t2)
   split
   ·have pr:=relayAll_perm t2 es1 (SetTable.grown es1.size)
    have fr:=relayAll_fits t2 es1 (SetTable.grown es1.size)
    have tr:=tb2.relayAll es1 (SetTable.grown es1.size)
    generalize PySem.relayAll t2 es1 (SetTable.grown es1.size)=L2 at pr fr tr ⊢
    obtain ⟨es2,t3,gv2⟩:=L2
    dsimp only at pr fr tr ⊢
    obtain ⟨k2,e2,p2⟩:=q1
    obtain ⟨k3,e3,p3⟩:=e2.perm pr
    have sz2:es2.size=es1.size:=by rw [←Array.length_toList,pr.length_eq,Array.length_toList]
    have b2:es2.size < scanBound:=by omega
    refine wpAny_bind (mono gv2 ?_ _ (by cases gv2 <;> first | exact .inl rfl | exact .inr rfl))
    refine wpAny_bind (wpAny_storeSet_of g1 d1 ?_ (fits_of_scanBound b2))
    obtain ⟨_,_,_,_,S2⟩:=Ga (knd:=knd) g1 ex1 d1 ⟨k3,e3,p3.trans p2⟩ b2 fr tr
    exact wpAny_pure (wpAny_pure (h _ _ (uy.trans (Heap.SameBut.update ..)) S2))
   ·exact wpAny_pure (wpAny_pure (h _ _ uy S1))
  split
  ·refine wpAny_bind ?_
   rw [hashByValue_scannable 8 hx]
   refine wpAny_pure ?_
   by_cases hv:plainKind x=true
   ·simp only [hv,if_true]
    exact tail t1 fn tn
   ·simp only [hv,Bool.false_eq_true,if_false]
    exact tail _ (SetTable.fits_plain_off fn) (tn.plain false)
  ·refine wpAny_bind (wpAny_pure ?_)
   simp only [if_true]
   exact tail t1 fn tn
end
end L2
namespace L2
open PySem PySem.Spec PySem.W
section
variable {T:Type} [DecidableEq T]
noncomputable def dedup (ks:List T):List T:=ks.foldl jC []
theorem uz (ks:List T) (k:T):dedup (ks++[k])=jC (dedup ks) k:=by simp [dedup,List.foldl_append]
theorem KR {ks:List T} {k x:T}:x∈jC ks k ↔ x∈ks∨x=k:=by
 unfold jC
 split
 ·rename_i h
  exact ⟨.inl,fun z=>z.elim id fun e=>e ▸ h⟩
 ·simp
theorem kZ {x:T}:∀(ks as:List T),x∈ks.foldl jC as ↔ x∈as∨x∈ks
 | [],as=>by simp
 | k::ks,as=>by rw [List.foldl_cons,kZ,KR,List.mem_cons,or_assoc]
theorem qy {ks:List T} {x:T}:x∈dedup ks ↔ x∈ks:=by
 rw [dedup,kZ]
 simp
theorem Dq {ks:List T} {k:T} (h:ks.Nodup):(jC ks k).Nodup:=by
 unfold jC
 split
 ·exact h
 ·rename_i hk
  exact List.nodup_append.mpr ⟨h,by simp,fun a ha b hb=>by rw [List.mem_singleton] at hb; rintro rfl; exact hk (hb ▸ ha)⟩
theorem ju:∀(ks as:List T),as.Nodup→(ks.foldl jC as).Nodup
 | [],_,h=>h
 | k::ks,_,h=>ju ks _ (Dq h)
theorem rK (ks:List T):(dedup ks).Nodup:=ju ks [] .nil
theorem KY (ks:List T) (k:T):(jC ks k).length≤ks.length + 1:=by
 unfold jC
 split <;> simp
theorem lg:∀(ks as:List T),(ks.foldl jC as).length≤as.length + ks.length
 | [],_=>by simp
 | k::ks,as=>by
  have h1:=lg ks (jC as k)
  have h2:=KY as k
  simp only [List.foldl_cons,List.length_cons]
  omega
theorem dY (ks:List T):(dedup ks).length≤ks.length:=by simpa [dedup] using lg ks []
end
section
variable {prog:Program} {w:World} {T:Type} [DecidableEq T] {knd:PySem.KeyKind prog w T} {A:Around} {E:Value→Shared→Prop} {s:Shared}
theorem iw.at {h h':Heap} {a:Addr} {ks:List T} (H:iw knd h a ks) (e:∀o,h.get? a=some o→h'.get? a=some o):iw knd h' a ks:=
 let ⟨o,es,ep,t,ho,r⟩:=H
 ⟨o,es,ep,t,e o ho,r⟩
theorem iw.lt {h:Heap} {a:Addr} {ks:List T} (H:iw knd h a ks):a < h.objs.size:=let ⟨_,_,_,_,ho,_⟩:=H; Heap.lt_size ho
theorem iw.ty {a:Addr} {ks:List T} (H:iw knd s.heap a ks):s.TypeIs (.ref a) "set":=let ⟨o,_,_,_,ho,ex,_⟩:=H; ⟨o,ho,ex.1⟩
theorem KZ {R:Result→Shared→Prop} {I:Addr} {fp wr:List Addr} {G:Array GenState→Array GenState→Prop} {n:Nat} {Pv:Nat→Value→Prop} {St:Nat→Shared→Prop} (W:WalksS prog w A.in1 I fp wr G n Pv St) {S:Addr} (out:S∉fp) {val:Nat→T}
  (hv:∀i v,Pv i v→knd.is (val i) v=true∧v.scannable=true) (room:n + 1 < scanBound):∀(m i:Nat) (s:Shared),n - i=m→i≤n→St i s→iw knd s.heap S (dedup ((List.range i).map val))→
  (∀s',Moved (S::wr) G s s'→iw knd s'.heap S (dedup ((List.range n).map val))→R (.ok (.ret .none)) s')→codeAny (model prog w) A (.builtin "set.update.loop" ⟨[.ref S,.ref I],[]⟩) R s:=by
 have Dr:S∉wr:=fun z=>out (W.sub _ z)
 have RC:∀b,b∈wr→b∈S::wr:=fun b z=>List.mem_cons_of_mem _ z
 intro m
 induction m with
 | zero=>
  intro i s hm hi st hS hR
  obtain rfl:i=n:=by omega
  refine codeAny_builtin PyProof.Rows.F.entry_set_update_loop ?_; rw [Around.under_plainId PyProof.Rows.F.plain_set_update_loop _]
  show wpAny _ A.in1 (pyNext (.ref I) >>= _) _ _ s; refine wpAny_bind (W.done s _ _ st fun s' mv=>?_)
  show wpAny _ A.in1 (ret Value.none) _ _ s'; exact wpAny_pure (hR s' (mv.mono RC) (hS.at fun o e=>mv.heap S o Dr e))
 | succ m ih=>
  intro i s hm hi st hS hR
  have lt:i < n:=by omega
  refine codeAny_builtin PyProof.Rows.F.entry_set_update_loop ?_; rw [Around.under_plainId PyProof.Rows.F.plain_set_update_loop _]
  show wpAny _ A.in1 (pyNext (.ref I) >>= _) _ _ s; refine wpAny_bind (W.item i s _ _ lt st fun v s' pv st' mv=>?_)
  obtain ⟨isv,scv⟩:=hv i v pv
  have hS1:iw knd s'.heap S (dedup ((List.range i).map val)):=hS.at fun o e=>mv.heap S o Dr e
  show wpAny _ A.in1 (holding [v] (setAdd S v) >>= _) _ _ s'; refine wpAny_bind (wpAny_holding ?_); unfold setAdd; refine wpAny_holding (wpAny_bind (knd.pyHash isv ?_))
  have few:=dY ((List.range i).map val)
  rw [List.length_map,List.length_range] at few
  refine Gb (knd:=knd) (s:={ s' with toks:=s'.toks + 1 }) isv scv hS1 (by omega) fun _ h' same hS2=>?_
  have hS3:iw knd h' S (dedup ((List.range (i + 1)).map val)):=by rw [List.range_succ,List.map_append,List.map_singleton,uz]; exact hS2
  refine wpAny_pure ⟨plainId_quiet PyProof.Rows.F.plain_set_update_loop _,ih (i + 1) _ (by omega) lt (W.frame _ s' _ _ st' (Nat.le_succ _) fun b hb o e=>(same.2 b fun z=>out (z ▸ hb)).trans e) hS3 fun s2 mv2 hS4=>?_⟩
  exact hR s2 (Moved.trans W.gtrans ((mv.mono RC).then_heap (Nat.le_succ _) fun b o hb e=>(same.2 b fun z=>hb (by rw [z]; exact List.mem_cons_self)).trans e) mv2) hS4
end
end L2
namespace L2
open PySem PySem.Spec PySem.W
section
variable {prog:Program} {w:World} {T:Type} [DecidableEq T] {knd:PySem.KeyKind prog w T} {A:Around} {E:Value→Shared→Prop} {s:Shared}
noncomputable def je (w:World):Obj:={ cls:=.type "set",dict:=none,data:=.set #[] 0 (.fresh 0 0 (bt w)) }
theorem K1 {h:Heap} {a:Addr} (g:h.get? a=some (je w)):iw knd h a []:=⟨_,#[],0,_,g,⟨rfl,rfl,rfl⟩,rfl,⟨[],.nil,.refl _⟩,by decide,rfl,gG.fresh _⟩
theorem K3 (a:Value) {Q1:Value→Shared→Prop} (h:Q1 (.ref s.heap.objs.size) { s with heap:=s.heap.push (je w) }):codeAny (model prog w) A (.call (.builtin "set.__new__") ⟨[.type "set",a],[]⟩) (wants Q1 E) s:=by
 refine codeAny_of_tree ?_
 show wpAny _ A.in1 (checkBuiltinCall "set.__new__" ⟨[.type "set",a],[]⟩ >>= fun _=>again (.builtin "set.__new__" ⟨[.type "set",a],[]⟩)) _ _ s
 refine wpAny_bind (wpAny_of_eq (F.newCall_set_1 a) (wpAny_pure ⟨plainId_quiet PySem.F.plain_set_new _,codeAny_builtin PySem.F.entry_set_new ?_⟩)); rw [Around.under_plainId PySem.F.plain_set_new _]
 unfold Builtin.«set.__new__» Builtin.Frozenset.newClass
 have sub:=PySem.sub_set_self
 obtain ⟨h0,g0,d0,t0,o0⟩:=s
 dsimp only
 wp_walk
 refine wpAny_askSetting (wpAny_pure ?_)
 dsimp only
 simp only [newObj]
 refine wpAny_bind (wpAny_alloc (wpAny_pure ?_))
 exact wpAny_pure h
theorem Io {l:Addr} {items:Array Value} {val:Nat→T} {Q:Value→Shared→Prop} (hh:A.handled=none) (hl:s.heap.IsList l items) (hv:∀i v,items[i]?=some v→knd.is (val i) v=true∧v.scannable=true) (room:items.size + 1 < scanBound)
  (h:∀(h':Heap) (tk:Nat),iw knd h' s.heap.objs.size (dedup ((List.range items.size).map val))→(∀b o,s.heap.get? b=some o→h'.get? b=some o)→Q (.ref s.heap.objs.size) { s with heap:=h',toks:=tk }):
  wpAny (model prog w) A (call (.type "set") [.ref l]) Q E s:=by
 obtain ⟨c0,tl0,abP⟩:=PySem.F.called_set.mro
 have aaY:=PySem.F.called_set.made
 have abQ:=PySem.F.called_set.sub
 refine wpAny_call (codeAny_of_tree (show wpAny _ _ (callAny (.type "set") _) _ _ _ from ?_))
 refine wpAny_pure ⟨Code.quiet_builtin _ (by decide +kernel),codeAny_builtin F.entry_type_call ?_⟩; rw [Around.under_plain (weight_type_call_type "set" [.ref l] []) rfl]
 have n1:=PySem.F.called_set.notType
 have n2:=PySem.F.called_set.canCreate
 have n3:=PySem.F.typeCall_set_1 (.ref l)
 repeat (any_goals (first | assumption | wp_step))
 refine codeAny_mono (K3 (.ref l) (E:=E) (Q1:=fun obj s1=>obj=.ref s.heap.objs.size∧s1={ s with heap:=s.heap.push (je w) }) ⟨rfl,rfl⟩) fun r s1 hr=>?_
 cases r with
 | error e=>exact hr
 | ok fl=>
  cases fl with
  | ret obj=>
   obtain ⟨rfl,rfl⟩:=hr
   have g0:(s.heap.push (je w)).get? s.heap.objs.size=some (je w):=Heap.get?_push_size _ rfl
   have ty0:Shared.TypeIs { s with heap:=s.heap.push (je w) } (.ref s.heap.objs.size) "set":=⟨_,g0,rfl⟩
   have li:=PySem.F.called_set.init.lookup
   have bi:=PySem.F.called_set.init.bind (.ref s.heap.objs.size)
   repeat (any_goals (first | assumption | wp_step))
   refine codeAny_mono (codeAny_call_builtin (R:=wants (fun r s2=>r=.none∧∃h' tk,s2={ s with heap:=h',toks:=tk }∧iw knd h' s.heap.objs.size (dedup ((List.range items.size).map val))∧∀b o,s.heap.get? b=some o→h'.get? b=some o) E) PySem.F.called_set.init.plain PySem.F.entry_set_init (check_set_init_1 ty0 ?_)) fun r2 s2 hr2=>?_
   ·obtain ⟨ol,hol,hcl,nl,hdl⟩:=hl
    obtain ⟨ocls,odict,odata,oslots⟩:=ol
    simp only at hcl hdl
    subst hcl; subst hdl
    have hol1:(s.heap.push (je w)).get? l=some { cls:=.type "list",dict:=odict,data:=.seq items nl,slots:=oslots }:=Heap.get?_push_of_some _ hol
    have u1:=PySem.F.sub_list_set
    have u2:=PySem.F.sub_list_frozenset
    have u3:(Value.type "list"==Value.type "dict")=false:=by decide
    have li1:(s.heap.push (je w)).IsList l items:=⟨_,hol1,rfl,nl,rfl⟩
    unfold Builtin.«set.__init__» noKeywords Builtin.Frozenset.updateFrom
    generalize keep:pyIter=PI
    wp_walk
    subst keep
    refine wpAny_pyIter_list li1 (wpAny_bind (wpAny_runValue ?_))
    have lt0:l < s.heap.objs.size:=Heap.lt_size hol
    have hh3:A.in1.in1.in1.handled=none:=by simp [hh]
    have ne0:l≠(s.heap.push (je w)).objs.size:=by rw [Heap.size_push]; exact Nat.ne_of_lt (Nat.lt_succ_of_lt lt0)
    have Zc:s.heap.objs.size∉[(s.heap.push (je w)).objs.size,l]:=by
     rw [Heap.size_push]
     simp only [List.mem_cons,List.not_mem_nil,or_false,not_or]
     exact ⟨Nat.ne_of_lt (Nat.lt_succ_self _),Nat.ne_of_gt lt0⟩
    refine KZ (knd:=knd) (val:=val) ((Walks.list hh3 _ l ne0 items).toS) Zc hv room (items.size - 0) 0 _ (by omega) (Nat.zero_le _) ⟨⟨_,Heap.get?_push_size _ rfl,rfl,rfl⟩,li1.push _⟩ (K1 (Heap.get?_push_of_some _ g0)) fun s3 mv hS=>?_
    obtain ⟨h3,g3,d3,t3,o3⟩:=s3
    obtain rfl:g3=s.gens:=mv.gens
    obtain rfl:d3=s.drawn:=mv.drawn
    obtain rfl:o3=s.os:=mv.os
    show wpAny _ _ _ _ _ _
    refine wpAny_pure (show wpAny _ _ (ret Value.none) _ _ _ from wpAny_pure ⟨rfl,h3,t3,rfl,hS,fun b o e=>?_⟩)
    have ltb:b < s.heap.objs.size:=Heap.lt_size e
    refine mv.heap b o ?_ (Heap.get?_push_of_some _ (Heap.get?_push_of_some _ e))
    rw [Heap.size_push]
    simp only [List.mem_cons,List.not_mem_nil,or_false,not_or]
    exact ⟨Nat.ne_of_lt ltb,Nat.ne_of_lt (Nat.lt_succ_of_lt ltb)⟩
   ·cases r2 with
    | error e=>exact hr2
    | ok f2=>
     cases f2 with
     | ret r=>
      obtain ⟨rfl,h',tk,rfl,hS,kk⟩:=hr2
      repeat (any_goals (first | assumption | wp_step))
      exact h _ _ hS kk
     | _=>exact hr2.elim
  | _=>exact hr.elim
end
end L2
namespace L2
open PySem PySem.Spec PySem.W
theorem Aj:Manifest.owners.lookup (String.ofList "rotareti_tes".toList.reverse)=some Manifest.sig_set_iterator:=by kernel_rfl
theorem d9:Slot "set_iterator" "__next__" "set_iterator.__next__":=.of (owner:="set_iterator") (n:="__next__") (by rw [typeLookup_type,builtinLookup_eq_fast]; kernel_rfl) (by decide +kernel) (by decide +kernel) (by decide +kernel) (by first | exact .inl (by decide +kernel) | exact .inr (by decide +kernel)) (by rw [isSubtype_type]; kernel_rfl)
theorem Gd:Slot "set_iterator" "__iter__" "set_iterator.__iter__":=.of (owner:="set_iterator") (n:="__iter__") (by rw [typeLookup_type,builtinLookup_eq_fast]; kernel_rfl) (by decide +kernel) (by decide +kernel) (by decide +kernel) (by first | exact .inl (by decide +kernel) | exact .inr (by decide +kernel)) (by rw [isSubtype_type]; kernel_rfl)
theorem mH:entryFor table "set_iterator.__next__"=some Builtin.«set_iterator.__next__»:=entryFor_of_tree (by kernel_rfl)
theorem Ip:entryFor table "set_iterator.__iter__"=some Builtin.«dict_keyiterator.__iter__»:=entryFor_alias (id':="dict_keyiterator.__iter__") (by kernel_rfl) rfl (by decide +kernel) (by kernel_rfl)
theorem Ds:entryFor table "set.__iter__"=some Builtin.«frozenset.__iter__»:=entryFor_alias (id':="frozenset.__iter__") (by kernel_rfl) rfl (by decide +kernel) (by kernel_rfl)
theorem mJ (a:Value):argsOk "set_iterator.__next__" ⟨[a],[]⟩:=by
 unfold argsOk; rw [signature?_of (id:="set_iterator.__next__") (n:="__txen__".toList) (o:="rotareti_tes".toList) (by kernel_rfl) Aj]; kernel_rfl
theorem Ir (a:Value):argsOk "set_iterator.__iter__" ⟨[a],[]⟩:=by
 unfold argsOk; rw [signature?_of (id:="set_iterator.__iter__") (n:="__reti__".toList) (o:="rotareti_tes".toList) (by kernel_rfl) Aj]; kernel_rfl
end L2
namespace L2
open PySem PySem.Spec PySem.W
section
variable {prog:Program} {w:World} {A:Around} {E:Value→Shared→Prop} {s:Shared} {it S:Addr} {es:Array (Int×Value)} {ep i n:Nat} {t:SetTable} {first:Value}
noncomputable def lq (b:Bool) (h:Heap) (a:Addr) (es:Array (Int×Value)) (ep:Nat) (t:SetTable):Prop:=∃o,h.get? a=some o∧o.ExactSet∧o.data=.set es ep t∧t.fits es.size=true∧gG b t
theorem lq.at {b:Bool} {h h':Heap} {a:Addr} (H:lq b h a es ep t) (e:∀o,h.get? a=some o→h'.get? a=some o):lq b h' a es ep t:=let ⟨o,ho,r⟩:=H; ⟨o,e o ho,r⟩
noncomputable def wZ (h:Heap) (it S:Addr) (first:Value) (i n ep:Nat):Prop:=∃o,h.get? it=some o∧o.cls=.type "set_iterator"∧o.data=.fields #[first,rawInt i,.ref S,rawInt n,rawInt ep]
theorem wZ.at {h h':Heap} (H:wZ h it S first i n ep) (e:∀o,h.get? it=some o→h'.get? it=some o):wZ h' it S first i n ep:=let ⟨o,ho,r⟩:=H; ⟨o,e o ho,r⟩
theorem wZ.ty (H:wZ s.heap it S first i n ep):s.TypeIs (.ref it) "set_iterator":=let ⟨o,ho,c,_⟩:=H; ⟨o,ho,c⟩
theorem wZ.set {h:Heap} {j:Nat} {x:Value} {vs:Array Value} {o:Obj} (ho:h.get? it=some o) (hc:o.cls=.type "set_iterator") (hd:o.data=.fields vs):
  ∃o',(h.update it (Obj.mapFields (·.setIfInBounds j x))).get? it=some o'∧o'.cls=.type "set_iterator"∧o'.data=.fields (vs.setIfInBounds j x):=
 ⟨_,Heap.get?_update_self _ ho (Obj.isFreed_of_fields (Obj.data_mapFields hd _)),(Obj.cls_mapFields ..).trans hc,by rw [Obj.data_mapFields hd]⟩
theorem yL {Q:Value→Shared→Prop} (hit:wZ s.heap it S first i n ep) (h:Q (.ref it) s):wpAny (model prog w) A (pyIter (.ref it)) Q E s:=by
 refine wpAny_pyIter_slot hit.ty Gd (wpAny_call_entry Gd hit.ty Ip (show wpAny _ _ (ret (.ref it)) _ _ s from ?_) (Ir _))
 exact wpAny_pure ⟨_,rfl,"set_iterator",_,hit.ty,d9.lookup,h⟩
theorem Ge {Q:Option Value→Shared→Prop} {slot:Nat} {R:Option (Value×Nat)} (hit:wZ s.heap it S (rawInt slot) i n ep) (hs:lq (bt w) s.heap S es ep t) (hn:n=es.size) (ne:S≠it)
  (nx:∀{B:Around} {E':Value→Shared→Prop} {C:Option (Value×Nat)→Shared→Prop},C R s→wpAny (model prog w) B (setNext S slot i ep) C E' s) {x:Value} {nxt:Nat} (hR:R=some (x,nxt))
  (h:∀h',wZ h' it S (rawInt nxt) (i + 1) n ep→Heap.SameBut it s.heap h'→Q (some x) { s with heap:=h' }):wpAny (model prog w) A (pyNext (.ref it)) Q E s:=by
 obtain ⟨o,ho,hc,hd⟩:=id hit
 obtain ⟨os,hos,exs,hds,hf,tb⟩:=id hs
 unfold pyNext
 refine wpAny_bind (wpAny_attempt (wpAny_callSpecial?_slot (name:=Str.ofString "__next__") hit.ty d9 (wpAny_call_entry d9 hit.ty mH ?_ (mJ _))))
 unfold Builtin.«set_iterator.__next__»
 refine wpAny_bind (wpAny_pure (wpAny_bind (wpAny_fieldsOf ho hd ?_)))
 dsimp only [rawInt]
 refine wpAny_bind (wpAny_setEntries_of hos hds hf ?_)
 subst hn; subst hR
 rw [if_neg (by simp)]
 refine wpAny_bind (nx ?_)
 dsimp only
 refine wpAny_bind (wpAny_setField ho hd (by simp) ?_)
 obtain ⟨o1,g1,c1,d1⟩:=wZ.set (j:=0) (x:=.int nxt 0) ho hc hd
 refine wpAny_bind (wpAny_setField g1 d1 (by simp) ?_)
 obtain ⟨o2,g2,c2,d2⟩:=wZ.set (j:=1) (x:=.int (i + 1) 0) g1 c1 d1
 refine wpAny_pure ⟨_,rfl,wpAny_pure (h _ ⟨o2,g2,c2,?_⟩ ((Heap.SameBut.update ..).trans (Heap.SameBut.update ..)))⟩
 rw [d2]
 simp [rawInt]
theorem Gf {Q:Option Value→Shared→Prop} {s':Shared} (hh:A.handled=none) (h:∀h',(∀b o,s'.heap.get? b=some o→h'.get? b=some o)→Q none { s' with heap:=h' }):
  wpAny (model prog w) A.in1 (do let e ←newExc (.type "StopIteration") []; (raiseNew e:Sem Fin)) (fun fin s1=>∃v,fin=Fin.done (Flow.ret v)∧wpAny (model prog w) A (pure (some v)) Q E s1)
   (fun e s1=>wpAny (model prog w) A (do if (←isInstance e (Value.type "StopIteration"))=true then pure none else throw e) Q E s1) s':=by
 refine wpAny_bind ?_
 simp only [newExc,newTuple]
 refine wpAny_bind (wpAny_newObj_type ?_ (by size_fits))
 refine wpAny_bind (m:=firstArgMember _ _) (wpAny_of_eq (a:=Value.none) (by first | rfl | (simp only [firstArgMember]; rfl)) ?_)
 refine wpAny_newObj_type ?_ (by size_fits); simp only [raiseNew]; refine wpAny_bind (wpAny_handled ?_)
 rw [show A.in1.handled=none from hh]; refine wpAny_bind (wpAny_pure (wpAny_throw ?_))
 refine wpAny_bind (wpAny_isInstance (T:="StopIteration") (b:=true) ⟨_,Heap.get?_push_size _ rfl,rfl⟩ isSubtype_stop ?_)
 exact wpAny_pure (h _ fun b o e=>Heap.get?_push_of_some _ (Heap.get?_push_of_some _ e))
theorem K4 {Q:Option Value→Shared→Prop} {slot:Nat} (hh:A.handled=none) (hit:wZ s.heap it S (rawInt slot) i n ep) (hs:lq (bt w) s.heap S es ep t) (hn:n=es.size)
  (nx:∀{B:Around} {E':Value→Shared→Prop} {C:Option (Value×Nat)→Shared→Prop},C none s→wpAny (model prog w) B (setNext S slot i ep) C E' s)
  (h:∀h',(∀b o,b≠it→s.heap.get? b=some o→h'.get? b=some o)→Q none { s with heap:=h' }):wpAny (model prog w) A (pyNext (.ref it)) Q E s:=by
 obtain ⟨o,ho,hc,hd⟩:=id hit
 obtain ⟨os,hos,exs,hds,hf,tb⟩:=id hs
 unfold pyNext
 refine wpAny_bind (wpAny_attempt (wpAny_callSpecial?_slot (name:=Str.ofString "__next__") hit.ty d9 (wpAny_call_entry d9 hit.ty mH ?_ (mJ _))))
 unfold Builtin.«set_iterator.__next__»
 refine wpAny_bind (wpAny_pure (wpAny_bind (wpAny_fieldsOf ho hd ?_)))
 dsimp only [rawInt]
 refine wpAny_bind (wpAny_setEntries_of hos hds hf ?_)
 subst hn
 rw [if_neg (by simp)]
 refine wpAny_bind (nx ?_)
 dsimp only
 refine wpAny_bind (wpAny_setField ho hd (by simp) ?_)
 exact Gf hh fun h' kk=>h h' fun b o hb e=>kk b o (((Heap.SameBut.update ..).2 b hb).trans e)
end
end L2
namespace L2
open PySem PySem.Spec PySem.W
section
variable {prog:Program} {w:World} {A:Around} {E:Value→Shared→Prop} {s:Shared} {it S:Addr} {es:Array (Int×Value)} {ep i n:Nat} {t:SetTable} {first:Value}
theorem sZ {Q:Bool→Shared→Prop} (h:Q (!bt w) s):wpAny (model prog w) A setsByText Q E s:=by
 unfold setsByText
 refine wpAny_bind (wpAny_askSetting (wpAny_pure ?_))
 have h':Q (w.params.followText "set-order") s:=by simpa [bt] using h
 exact h'
theorem nD {α:Type}:∀{l:List α} {j:Nat} (h:j < l.length),(l[j]::l.eraseIdx j).Perm l
 | [],j,h=>by cases h
 | a::l,0,h=>.refl _
 | a::l,j + 1,h=>by
  have:=nD (l:=l) (j:=j) (by simpa using h)
  simp only [List.getElem_cons_succ,List.eraseIdx_cons_succ]
  exact (List.Perm.swap ..).trans (this.cons a)
theorem xg {C:Option (Value×Nat)→Shared→Prop} {slot:Nat} (hs:lq (bt w) s.heap S es ep t) (hb:bt w=true) (nd:(!t.plain&&decide (es.size > 1))=false)
  (h:C (match es[SetTable.below t.place slot]?,t.place[SetTable.below t.place slot]? with | some (_,x),some j=>some (x,j + 1) | _,_=>none) s):wpAny (model prog w) A (setNext S slot i ep) C E s:=by
 obtain ⟨o,ho,ex,hd,hf,tb⟩:=hs
 unfold setNext
 refine wpAny_bind (wpAny_setState_of ho hd hf ?_)
 refine wpAny_bind (sZ ?_)
 rw [hb]
 simp only [Bool.not_true,Bool.false_eq_true,if_false]
 refine wpAny_ite_split (fun z=>?_) (fun _=>?_)
 ·have z':(!t.plain&&decide (es.size > 1))=true:=z
  rw [nd] at z'
  cases z'
 refine wpAny_bind (show wpAny _ _ (if (!t.led&&!es.isEmpty)=true then _ else _) _ _ _ from ?_)
 rw [tb.led,hb]
 simp only [Bool.not_true,Bool.false_and,Bool.false_eq_true,if_false]
 exact wpAny_pure (wpAny_pure h)
theorem xj {C:Option (Value×Nat)→Shared→Prop} {slot:Nat} (hs:lq (bt w) s.heap S es ep t) (hb:bt w=false)
  (h:C (((pickOrder (w.params.setOrder S ep) es)[i]?).map fun e=>(e.2,slot)) s):wpAny (model prog w) A (setNext S slot i ep) C E s:=by
 obtain ⟨o,ho,ex,hd,hf,tb⟩:=hs
 unfold setNext
 refine wpAny_bind (wpAny_setState_of ho hd hf ?_)
 refine wpAny_bind (sZ ?_)
 rw [hb]
 simp only [Bool.not_false,if_true,bne_self_eq_false,Bool.false_eq_true,if_false]
 refine wpAny_bind ?_
 unfold setWalk
 refine wpAny_bind (wpAny_setState_of ho hd hf ?_)
 refine wpAny_bind (sZ ?_)
 rw [hb]
 simp only [Bool.not_false,if_true]
 refine wpAny_bind (wpAny_askSetting (wpAny_pure ?_))
 exact wpAny_pure h
theorem Gg {α:Type} (f:Nat→Nat):∀(m k:Nat) (left:List α) (out:Array α),left.length=m→(pickOrder.go f m k left out).toList.Perm (out.toList++left)
 | 0,k,left,out,h=>by
  unfold pickOrder.go
  rw [List.length_eq_zero_iff.mp h]
  simp
 | m + 1,k,left,out,h=>by
  unfold pickOrder.go
  have hl:f k % left.length < left.length:=Nat.mod_lt _ (by omega)
  rw [List.getElem?_eq_getElem hl]
  dsimp only
  refine (Gg f m (k + 1) _ _ (by rw [List.length_eraseIdx]; simp [hl]; omega)).trans ?_
  rw [Array.toList_push,List.append_assoc]
  refine List.Perm.append_left _ ?_
  exact nD hl
theorem qz {α:Type} (f:Nat→Nat) (xs:Array α):(pickOrder f xs).toList.Perm xs.toList:=by
 have:=Gg f xs.size 0 xs.toList #[] (by simp)
 simpa [pickOrder] using this
theorem K5 {src:Source} {m:Nat} {Q:Nat→Shared→Prop} (hm:m≠0) (h:∀j d,j < m→Q j { s with drawn:=d }):wpAny (model prog w) A (choose src m) Q E s:=fun Γ p _=>⟨hm,h _ _ (Nat.mod_lt _ (Nat.pos_of_ne_zero hm))⟩
theorem Ak {α:Type}:∀(m:Nat) (xs:List α) (s:Shared) (Q:List α→Shared→Prop),xs.length=m→(∀ys d,ys.Perm xs→Q ys { s with drawn:=d })→wpAny (model prog w) A (drawOrder m xs) Q E s
 | 0,xs,s,Q,hl,h=>by
  unfold drawOrder
  rw [List.length_eq_zero_iff.mp hl] at h
  exact wpAny_pure (h [] s.drawn (.refl _))
 | m + 1,[],s,Q,hl,h=>by cases hl
 | m + 1,x::xs,s,Q,hl,h=>by
  unfold drawOrder
  refine wpAny_bind (K5 (by simp) fun j d hj=>?_)
  rw [List.getElem?_eq_getElem hj]
  dsimp only
  refine wpAny_bind (Ak m _ _ _ (by rw [List.length_eraseIdx,if_pos hj]; simpa using hl) fun ys d' hp=>?_)
  exact wpAny_pure (h _ d' ((hp.cons _).trans (nD hj)))
end
end L2
namespace L2
open PySem PySem.Spec PySem.W
section
variable {prog:Program} {w:World} {A:Around} {E:Value→Shared→Prop} {s:Shared} {it S pl:Addr} {es:Array (Int×Value)} {ep i n:Nat} {t:SetTable} {ps:List Nat}
noncomputable def Vt (h:Heap) (pl:Addr) (ps:List Nat):Prop:=∃o c,h.get? pl=some o∧o.data=.seq (ps.map fun k:Nat=>rawInt k).toArray c
theorem Vt.at {h h':Heap} (H:Vt h pl ps) (e:∀o,h.get? pl=some o→h'.get? pl=some o):Vt h' pl ps:=let ⟨o,c,ho,r⟩:=H; ⟨o,c,e o ho,r⟩
theorem Pk {Q:Option Value→Shared→Prop} {k:Nat} {e:Int×Value} (hit:wZ s.heap it S (.ref pl) i n ep) (hs:lq (bt w) s.heap S es ep t) (hp:Vt s.heap pl ps) (hn:n=es.size) (hk:ps[i]?=some k) (he:es[k]?=some e)
  (h:∀h',wZ h' it S (.ref pl) (i + 1) n ep→Heap.SameBut it s.heap h'→Q (some e.2) { s with heap:=h' }):wpAny (model prog w) A (pyNext (.ref it)) Q E s:=by
 obtain ⟨o,ho,hc,hd⟩:=id hit
 obtain ⟨os,hos,exs,hds,hf,tb⟩:=id hs
 obtain ⟨op,cp,hop,hdp⟩:=hp
 unfold pyNext
 refine wpAny_bind (wpAny_attempt (wpAny_callSpecial?_slot (name:=Str.ofString "__next__") hit.ty d9 (wpAny_call_entry d9 hit.ty mH ?_ (mJ _))))
 unfold Builtin.«set_iterator.__next__»
 refine wpAny_bind (wpAny_pure (wpAny_bind (wpAny_fieldsOf ho hd ?_)))
 dsimp only [rawInt]
 refine wpAny_bind (wpAny_setEntries_of hos hds hf ?_)
 subst hn
 rw [if_neg (by simp)]
 refine wpAny_bind (wpAny_seqItems hop hdp ?_)
 dsimp only
 rw [show ((ps.map fun k:Nat=>rawInt k).toArray)[((i:Int)).toNat]?=some (.int (k:Int) 0) by simp [hk,rawInt]]
 dsimp only
 refine wpAny_bind ?_
 unfold setNextDrawn
 refine wpAny_bind (wpAny_setState_of hos hds hf ?_)
 simp only [Int.toNat_natCast,bne_self_eq_false,Bool.false_eq_true,if_false,he]
 refine wpAny_pure (wpAny_bind (wpAny_setField ho hd (by simp) ?_))
 obtain ⟨o1,g1,c1,d1⟩:=wZ.set (j:=1) (x:=.int (i + 1) 0) ho hc hd
 refine wpAny_pure ⟨_,rfl,wpAny_pure (h _ ⟨o1,g1,c1,?_⟩ (Heap.SameBut.update ..))⟩
 rw [d1]
 simp [rawInt]
theorem Up {Q:Option Value→Shared→Prop} (hh:A.handled=none) (hit:wZ s.heap it S (.ref pl) i n ep) (hs:lq (bt w) s.heap S es ep t) (hp:Vt s.heap pl ps) (hn:n=es.size) (hk:ps.length≤i)
  (h:∀h',(∀b o,b≠it→s.heap.get? b=some o→h'.get? b=some o)→Q none { s with heap:=h' }):wpAny (model prog w) A (pyNext (.ref it)) Q E s:=by
 obtain ⟨o,ho,hc,hd⟩:=id hit
 obtain ⟨os,hos,exs,hds,hf,tb⟩:=id hs
 obtain ⟨op,cp,hop,hdp⟩:=hp
 unfold pyNext
 refine wpAny_bind (wpAny_attempt (wpAny_callSpecial?_slot (name:=Str.ofString "__next__") hit.ty d9 (wpAny_call_entry d9 hit.ty mH ?_ (mJ _))))
 unfold Builtin.«set_iterator.__next__»
 refine wpAny_bind (wpAny_pure (wpAny_bind (wpAny_fieldsOf ho hd ?_)))
 dsimp only [rawInt]
 refine wpAny_bind (wpAny_setEntries_of hos hds hf ?_)
 subst hn
 rw [if_neg (by simp)]
 refine wpAny_bind (wpAny_seqItems hop hdp ?_)
 dsimp only
 rw [show ((ps.map fun k:Nat=>rawInt k).toArray)[((i:Int)).toNat]?=none by simp [hk]]
 dsimp only
 refine wpAny_bind (wpAny_setField ho hd (by simp) ?_)
 obtain ⟨o1,g1,c1,d1⟩:=wZ.set (j:=0) (x:=.int 0 0) ho hc hd
 refine wpAny_bind (wpAny_setField g1 d1 (by simp) ?_)
 exact Gf hh fun h' kk=>h h' fun b o hb e=>kk b o ((((Heap.SameBut.update ..).trans (Heap.SameBut.update ..)).2 b hb).trans e)
theorem Iu (hh:A.handled=none) (ne:S≠it) (hb:bt w=true) (nd:(!t.plain&&decide (es.size > 1))=false) (hz:t.place.size=es.size) (rs:t.place.toList.Pairwise (· < ·)):
  Walks prog w A it [it,S] [it] es.size (fun i v=>(es.toList.map (·.2))[i]?=some v) (fun i h=>wZ h it S (rawInt (if i=0 then 0 else t.place.getD (i - 1) 0 + 1:Nat)) i es.size ep∧lq (bt w) h S es ep t) where
 sub:=fun b hb=>by simp at hb; simp [hb]
 frame:=fun _ _ _ st hk=>⟨st.1.at fun o e=>hk it (by simp) o e,st.2.at fun o e=>hk S (by simp) o e⟩
 item:=fun i s Q E hi st hQ=>by
  have hp:i < t.place.size:=by omega
  have bl:SetTable.below t.place (if i=0 then 0 else t.place.getD (i - 1) 0 + 1)=i:=by
   by_cases z:i=0
   ·subst z
    exact FZ rs
   ·rw [if_neg z]
    have h1:i - 1 < t.place.size:=by omega
    have:=uw rs h1
    rw [Array.getD_eq_getD_getElem?,Array.getElem?_eq_getElem h1,Option.getD_some,this]
    omega
  refine Ge (R:=some (es[i].2,t.place[i] + 1)) st.1 st.2 rfl ne (fun c=>xg st.2 hb nd ?_) rfl fun h' hit' same=>hQ _ h' s.toks (by simp [hi]) ⟨?_,st.2.at fun o e=>(same.2 S ne).trans e⟩ fun b o hb e=>(same.2 b fun z=>hb (by simp [z])).trans e
  ·rw [bl,Array.getElem?_eq_getElem hi,Array.getElem?_eq_getElem hp]
   exact c
  ·have e1:(if i + 1=0 then 0 else t.place.getD (i + 1 - 1) 0 + 1)=t.place[i] + 1:=by
    rw [if_neg (by omega),Nat.add_sub_cancel,Array.getD_eq_getD_getElem?,Array.getElem?_eq_getElem hp,Option.getD_some]
   rw [e1]
   exact hit'
 done:=fun s Q E st hQ=>by
  have bl:SetTable.below t.place (if es.size=0 then 0 else t.place.getD (es.size - 1) 0 + 1)=es.size:=by
   by_cases z:es.size=0
   ·rw [if_pos z,z]
    exact FZ rs
   ·rw [if_neg z]
    have h1:es.size - 1 < t.place.size:=by omega
    have:=uw rs h1
    rw [Array.getD_eq_getD_getElem?,Array.getElem?_eq_getElem h1,Option.getD_some,this]
    omega
  refine K4 hh st.1 st.2 rfl (fun c=>xg st.2 hb nd ?_) fun h' kk=>hQ h' s.toks fun b o hb e=>kk b o (fun z=>hb (by simp [z])) e
  rw [bl,Array.getElem?_eq_none (Nat.le_refl _)]
  exact c
 self:=fun _ _ _ _ st hQ=>yL st.1 hQ
theorem Iv (hh:A.handled=none) (ne:S≠it) (hb:bt w=false):
  Walks prog w A it [it,S] [it] es.size (fun i v=>((pickOrder (w.params.setOrder S ep) es).toList.map (·.2))[i]?=some v) (fun i h=>wZ h it S (rawInt (0:Nat)) i es.size ep∧lq (bt w) h S es ep t) where
 sub:=fun b hb=>by simp at hb; simp [hb]
 frame:=fun _ _ _ st hk=>⟨st.1.at fun o e=>hk it (by simp) o e,st.2.at fun o e=>hk S (by simp) o e⟩
 item:=fun i s Q E hi st hQ=>by
  have hl:(pickOrder (w.params.setOrder S ep) es).size=es.size:=by rw [←Array.length_toList,(qz _ es).length_eq,Array.length_toList]
  have hp:i < (pickOrder (w.params.setOrder S ep) es).size:=by omega
  refine Ge (R:=some ((pickOrder (w.params.setOrder S ep) es)[i].2,0)) st.1 st.2 rfl ne (fun c=>xj st.2 hb ?_) rfl fun h' hit' same=>hQ _ h' s.toks (by simp [hp]) ⟨hit',st.2.at fun o e=>(same.2 S ne).trans e⟩ fun b o hb e=>(same.2 b fun z=>hb (by simp [z])).trans e
  rw [Array.getElem?_eq_getElem hp]
  exact c
 done:=fun s Q E st hQ=>by
  have hl:(pickOrder (w.params.setOrder S ep) es).size=es.size:=by rw [←Array.length_toList,(qz _ es).length_eq,Array.length_toList]
  refine K4 hh st.1 st.2 rfl (fun c=>xj st.2 hb ?_) fun h' kk=>hQ h' s.toks fun b o hb e=>kk b o (fun z=>hb (by simp [z])) e
  rw [Array.getElem?_eq_none (by omega)]
  exact c
 self:=fun _ _ _ _ st hQ=>yL st.1 hQ
theorem Dt (hh:A.handled=none) (ne:S≠it) (np:pl≠it) (pp:ps.Perm (List.range es.size)):
  Walks prog w A it [it,S,pl] [it] es.size (fun i v=>(ps.map fun k=>(es.getD k (0,.none)).2)[i]?=some v) (fun i h=>wZ h it S (.ref pl) i es.size ep∧lq (bt w) h S es ep t∧Vt h pl ps) where
 sub:=fun b hb=>by simp at hb; simp [hb]
 frame:=fun _ _ _ st hk=>⟨st.1.at fun o e=>hk it (by simp) o e,st.2.1.at fun o e=>hk S (by simp) o e,st.2.2.at fun o e=>hk pl (by simp) o e⟩
 item:=fun i s Q E hi st hQ=>by
  have hl:ps.length=es.size:=by rw [pp.length_eq,List.length_range]
  have hp:i < ps.length:=by omega
  have hk:ps[i] < es.size:=List.mem_range.mp (pp.mem_iff.mp (List.getElem_mem hp))
  refine Pk (k:=ps[i]) (e:=es[ps[i]]) st.1 st.2.1 st.2.2 rfl (List.getElem?_eq_getElem hp) (Array.getElem?_eq_getElem hk) fun h' hit' same=>hQ _ h' s.toks ?_ ⟨hit',st.2.1.at fun o e=>(same.2 S ne).trans e,st.2.2.at fun o e=>(same.2 pl np).trans e⟩ fun b o hb e=>(same.2 b fun z=>hb (by simp [z])).trans e
  rw [List.getElem?_map,List.getElem?_eq_getElem hp,Option.map_some,Array.getD_eq_getD_getElem?,Array.getElem?_eq_getElem hk]
  rfl
 done:=fun s Q E st hQ=>by
  have hl:ps.length=es.size:=by rw [pp.length_eq,List.length_range]
  exact Up hh st.1 st.2.1 st.2.2 rfl (by omega) fun h' kk=>hQ h' s.toks fun b o hb e=>kk b o (fun z=>hb (by simp [z])) e
 self:=fun _ _ _ _ st hQ=>yL st.1 hQ
end
end L2
namespace L2
open PySem PySem.Spec PySem.W
section
variable {prog:Program} {w:World} {A:Around} {E:Value→Shared→Prop} {s:Shared} {S:Addr} {es:Array (Int×Value)} {ep:Nat} {t:SetTable}
theorem Iw {Q:Bool→Shared→Prop} (hs:lq (bt w) s.heap S es ep t) (h:Q (bt w&&(!t.plain&&decide (es.size > 1))) s):wpAny (model prog w) A (setDrawn S) Q E s:=by
 obtain ⟨os,hos,exs,hds,hf,tb⟩:=id hs
 unfold setDrawn
 refine wpAny_bind (wpAny_setState_of hos hds hf ?_)
 refine wpAny_bind (sZ (wpAny_pure ?_))
 rw [Bool.not_not]
 exact h
theorem K6 {Q:Value→Shared→Prop} (hh:A.handled=none) (hs:lq (bt w) s.heap S es ep t) (hb:es.size < scanBound)
  (h:∀(I:Addr) (h1:Heap) (d:Drawn) (fp:List Addr) (out:List Value) (St:Nat→Heap→Prop),Walks prog w A I fp [I] es.size (fun i v=>out[i]?=some v) St→St 0 h1→out.Perm (es.toList.map (·.2))→(∀b o,s.heap.get? b=some o→h1.get? b=some o)→s.heap.objs.size≤I→
   (∀b∈fp,b=S∨s.heap.objs.size≤b)→Q (.ref I) { s with heap:=h1,drawn:=d }):wpAny (model prog w) A (pyIter (.ref S)) Q E s:=by
 obtain ⟨os,hos,exs,hds,hf,tb⟩:=id hs
 have hT:s.TypeIs (.ref S) "set":=⟨os,hos,exs.1⟩
 have lt:S < s.heap.objs.size:=Heap.lt_size hos
 have hz:t.place.size=es.size:=by
  have:=hf
  simp only [SetTable.fits,Bool.and_eq_true,beq_iff_eq] at this
  exact this.1
 refine wpAny_pyIter_slot hT F.slot_set_iter (wpAny_call_entry F.slot_set_iter hT Ds ?_ (F.args_set_iter_1 _))
 unfold Builtin.«frozenset.__iter__» Builtin.Frozenset.slot0 Builtin.Frozenset.sizeOf
 refine wpAny_bind (wpAny_bind (wpAny_pure (wpAny_pure ?_)))
 refine wpAny_bind (wpAny_bind (wpAny_setEntries_of hos hds hf (wpAny_pure ?_)))
 refine wpAny_bind (Iw hs ?_)
 by_cases hd:(bt w&&(!t.plain&&decide (es.size > 1)))=true
 ·rw [if_pos hd]
  refine wpAny_bind (Ak _ _ _ _ (List.length_range ..) fun ps d pp=>?_)
  have pl:ps.length=es.size:=by rw [pp.length_eq,List.length_range]
  unfold newTuple
  refine wpAny_bind (wpAny_newObj_type ?_ (show (List.map (fun i:Nat=>rawInt i) ps).toArray.size≤sizeLine by rw [List.size_toArray,List.length_map,pl,sizeLine_eq]; unfold scanBound at hb; omega))
  have g1:(s.heap.push { cls:=.type "tuple",data:=.seq (ps.map fun k:Nat=>rawInt k).toArray }).get? S=some os:=Heap.get?_push_of_some _ hos
  refine wpAny_bind (wpAny_setEpoch_of (s:={ s with heap:=s.heap.push _,drawn:=d }) g1 hds hf ?_)
  refine wpAny_bind ?_
  unfold newFields
  refine wpAny_newObj_type ?_
  refine wpAny_pure ⟨_,rfl,"set_iterator",_,⟨_,Heap.get?_push_size _ rfl,rfl⟩,d9.lookup,?_⟩
  have RB:(s.heap.push { cls:=.type "tuple",data:=.seq (ps.map fun k:Nat=>rawInt k).toArray }).objs.size=s.heap.objs.size + 1:=Heap.size_push ..
  refine h _ _ d [_,S,s.heap.objs.size] _ _ (Dt (ep:=ep) (t:=t) hh ?_ ?_ pp) ⟨⟨_,Heap.get?_push_size _ rfl,rfl,rfl⟩,⟨os,Heap.get?_push_of_some _ g1,exs,hds,hf,tb⟩,⟨_,0,Heap.get?_push_of_some _ (Heap.get?_push_size _ rfl),rfl⟩⟩ ?_ (fun b o e=>Heap.get?_push_of_some _ (Heap.get?_push_of_some _ e)) ?_ ?_
  ·rw [RB]
   exact Nat.ne_of_lt (Nat.lt_succ_of_lt lt)
  ·rw [RB]
   exact Nat.ne_of_lt (Nat.lt_succ_self _)
  ·have e2:(List.range es.size).map (fun k=>(es.getD k (0,Value.none)).2)=es.toList.map (·.2):=by
    refine List.ext_getElem (by simp) fun j h1 h2=>?_
    have hj:j < es.size:=by simpa using h1
    simp [Array.getD_eq_getD_getElem?,Array.getElem?_eq_getElem hj]
   rw [←e2]
   exact pp.map _
  ·rw [RB]
   exact Nat.le_succ _
  ·intro b hb'
   simp only [List.mem_cons,List.not_mem_nil,or_false] at hb'
   rcases hb' with rfl | rfl | rfl
   ·right
    rw [RB]
    exact Nat.le_succ _
   ·exact .inl rfl
   ·exact .inr (Nat.le_refl _)
 ·rw [if_neg hd]
  refine wpAny_bind (wpAny_pure ?_)
  refine wpAny_bind (wpAny_setEpoch_of hos hds hf ?_)
  refine wpAny_bind ?_
  unfold newFields
  refine wpAny_newObj_type ?_
  refine wpAny_pure ⟨_,rfl,"set_iterator",_,⟨_,Heap.get?_push_size _ rfl,rfl⟩,d9.lookup,?_⟩
  have Wv:∀b,b∈[s.heap.objs.size,S]→b=S∨s.heap.objs.size≤b:=fun b hb'=>by
   simp only [List.mem_cons,List.not_mem_nil,or_false] at hb'
   rcases hb' with rfl | rfl
   ·exact .inr (Nat.le_refl _)
   ·exact .inl rfl
  cases hbt:bt w with
  | true=>
   rw [hbt] at hd
   have nd:(!t.plain&&decide (es.size > 1))=false:=by simpa using hd
   exact h _ _ s.drawn [_,S] _ _ (Iu (ep:=ep) hh (Nat.ne_of_lt lt) hbt nd hz tb.Zb) ⟨⟨_,Heap.get?_push_size _ rfl,rfl,rfl⟩,⟨os,Heap.get?_push_of_some _ hos,exs,hds,hf,tb⟩⟩ (.refl _) (fun b o e=>Heap.get?_push_of_some _ e) (Nat.le_refl _) Wv
  | false=>
   exact h _ _ s.drawn [_,S] _ _ (Iv (ep:=ep) (t:=t) hh (Nat.ne_of_lt lt) hbt) ⟨⟨_,Heap.get?_push_size _ rfl,rfl,rfl⟩,⟨os,Heap.get?_push_of_some _ hos,exs,hds,hf,tb⟩⟩ ((qz _ es).map _) (fun b o e=>Heap.get?_push_of_some _ e) (Nat.le_refl _) Wv
end
end L2
namespace L2
open PySem PySem.Spec PySem.W PyProof.Rows
section
variable {prog:Program} {w:World} {A:Around} {E:Value→Shared→Prop} {s:Shared} {S:Addr} {es:Array (Int×Value)} {ep:Nat} {t:SetTable}
theorem K7 {Q:Bool→Shared→Prop} (hT:s.TypeIs (.ref S) "set") (h:Q false s):wpAny (model prog w) A (Builtin.List.listLengthHint (.ref S)) Q E s:=by
 unfold Builtin.List.listLengthHint
 refine wpAny_bind (wpAny_specialOf hT PySem.F.slot_set_len.lookup ?_)
 generalize hid:("set.__len__":String)=nm
 wp_delta
 rw [show splitId nm=some ("set","__len__") by subst hid; decide +kernel]
 subst hid
 refine wpAny_bind (wpAny_isInstance (T:="set") (b:=true) hT (by rw [isSubtype_type]; kernel_rfl) ?_)
 refine wpAny_ite_split (fun z=>absurd z (by decide)) fun _=>wpAny_ite_split (fun _=>?_) fun z=>absurd (by decide +kernel) z
 exact wpAny_bind (wpAny_typeOf hT (wpAny_pure h))
theorem Iz {out:List Value} {acc:Array Value} (h:ItemsOf (fun i v=>out[i]?=some v) acc out.length):acc=out.toArray:=by
 refine Array.ext (by simpa using h.1) fun j h1 h2=>?_
 have this:out[j]?=some acc[j]:=h.2 j acc[j] (Array.getElem?_eq_getElem h1)
 have hj:j < out.length:=by simpa using h2
 rw [List.getElem?_eq_getElem hj] at this
 simpa using (Option.some.inj this).symm
theorem Du {R:Result→Shared→Prop} (hh:A.handled=none) (hs:lq (bt w) s.heap S es ep t) (hb:es.size < scanBound) {L:Addr} (ne:L≠S) {c0:Nat} (hL:s.heap.get? L=some { cls:=.type "list",data:=.seq #[] c0 }) (res:Value)
  (hR:∀(h':Heap) (d:Drawn) (tk:Nat) (us:List Value) (c':Nat),us.Perm (es.toList.map (·.2))→(∀b o,b≠L→s.heap.get? b=some o→h'.get? b=some o)→h'.get? L=some { cls:=.type "list",dict:=none,data:=.seq us.toArray c',slots:=#[] }→
   R (.ok (.ret res)) { s with heap:=h',drawn:=d,toks:=tk }):
  wpAny (model prog w) A.in1 (Builtin.List.listExtendWith (.ref L) (.ref S) res) (fun fin s'=>match fin with | .done f=>R (.ok f) s' | .again c'=>c'.quiet=true∧codeAny (model prog w) A c' R s') (fun e s'=>R (.error e) s') s:=by
 obtain ⟨os,hos,exs,hds,hf,tb⟩:=id hs
 have hT:s.TypeIs (.ref S) "set":=⟨os,hos,exs.1⟩
 have ltL:L < s.heap.objs.size:=Heap.lt_size hL
 unfold Builtin.List.listExtendWith
 refine wpAny_bind (wpAny_typeOf hT ?_)
 rw [show (Builtin.List.listSameRef (.ref L) (.ref S) || Value.type "set"==Value.type "list" || Value.type "set"==Value.type "tuple")=false by
  rw [show Builtin.List.listSameRef (.ref L) (.ref S)=false by simp [Builtin.List.listSameRef,ne]]
  decide]
 simp only [Bool.false_eq_true,if_false]
 refine wpAny_bind (K6 (A:=A.in1) hh hs hb fun I h1 d fp out St W st pm kp geI okf=>?_)
 have lo:out.length=es.size:=by rw [pm.length_eq,List.length_map,Array.length_toList]
 have gH:L∉fp:=fun z=>(okf L z).elim ne fun z'=>absurd ltL (Nat.not_lt.mpr z')
 have run:∀(h2:Heap) (c1 tk:Nat),St 0 h2→(∀b o,b≠L→s.heap.get? b=some o→h2.get? b=some o)→h2.get? L=some { cls:=.type "list",data:=.seq #[] c1 }→
   codeAny (model prog w) A (.builtin "list.extend.loop" ⟨[.ref L,.ref I,res],[]⟩) R { s with heap:=h2,drawn:=d,toks:=tk }:=fun h2 c1 tk st2 k2 g2=>by
  refine codeAny_extend_loopS W.toS (fits_of_scanBound hb) L gH res es.size 0 _ #[] c1 rfl (Nat.zero_le _) st2 g2 (ItemsOf.nil _) fun s3 acc c3 mv g3 io=>?_
  rw [←lo] at io
  have ea:=Iz io
  subst ea
  rw [Moved.eq_with mv]
  refine hR s3.heap d s3.toks out c3 pm (fun b o nb e=>mv.heap b o (fun z=>?_) (k2 b o nb e)) g3
  rcases List.mem_cons.mp z with z | z
  ·exact nb z
  ·exact absurd (Heap.lt_size e) (by rw [List.mem_singleton.mp z]; exact Nat.not_lt.mpr geI)
 have gL:=kp L _ hL
 have gS:Shared.TypeIs { s with heap:=h1,drawn:=d } (.ref S) "set":=⟨os,kp S _ hos,exs.1⟩
 refine wpAny_bind (wpAny_holding (K7 gS ?_))
 refine wpAny_ite_split (fun _=>?_) fun _=>wpAny_pure ⟨plainId_quiet PySem.F.plain_extend_loop _,run h1 c0 s.toks st (fun b o _ e=>kp b o e) gL⟩
 refine wpAny_bind (wpAny_rule (wpAny_bind (show wpAny _ _ (updateSeq L (·.push .none) >>= fun _=>updateSeq L (·.pop)) _ _ _ from ?_)))
 refine wpAny_bind (wpAny_updateSeq gL rfl ?_)
 have u2:=Heap.get?_update_self (Obj.mapSeq (·.push Value.none)) gL rfl
 refine wpAny_updateSeq (hz:=by seq_fits) u2 rfl ?_
 have u3:=Heap.get?_update_self (Obj.mapSeq (·.pop)) u2 rfl
 have far:∀b o,b≠L→h1.get? b=some o→((h1.update L (Obj.mapSeq (·.push Value.none))).update L (Obj.mapSeq (·.pop))).get? b=some o:=fun b o nb e=>
  (Heap.get?_update_other _ _ (Ne.symm nb)).trans ((Heap.get?_update_other _ _ (Ne.symm nb)).trans e)
 exact wpAny_pure ⟨plainId_quiet PySem.F.plain_extend_loop _,run _ _ s.toks (W.frame 0 _ _ st fun b hb' o e=>far b o (fun z=>gH (z ▸ hb')) e) (fun b o nb e=>far b o nb (kp b o e)) u3⟩
theorem Al {R:List Value→Shared→Prop} (hh:A.handled=none) (hs:lq (bt w) s.heap S es ep t) (hb:es.size < scanBound)
  (h:∀(h':Heap) (d:Drawn) (tk:Nat) (us:List Value),us.Perm (es.toList.map (·.2))→s.heap.objs.size≤h'.objs.size→(∀b o,s.heap.get? b=some o→h'.get? b=some o)→R us { s with heap:=h',drawn:=d,toks:=tk }):
  wpAny (model prog w) A (collect (.ref S)) R E s:=by
 have ltS:S < s.heap.objs.size:=let ⟨_,e,_⟩:=hs; Heap.lt_size e
 unfold collect
 refine wpAny_bind (wpAny_runValue (codeAny_builtin entry_proto_collect' ?_)); rw [Around.under_plainId PySem.F.plain_proto_collect _]
 show wpAny _ A.in1 (newList [] >>= fun l=>again (.builtin "list.__iadd__" ⟨[l,.ref S],[]⟩)) _ _ s
 refine wpAny_bind (wpAny_newObj_type (wpAny_pure ⟨plainId_quiet PySem.F.plain_list_iadd _,codeAny_builtin entry_list_iadd' ?_⟩)); rw [Around.under_plainId PySem.F.plain_list_iadd _]
 have g0:(s.heap.push { cls:=.type "list",data:=.seq ([]:List Value).toArray }).get? s.heap.objs.size=some { cls:=.type "list",data:=.seq #[] }:=Heap.get?_push_size _ rfl
 show wpAny _ A.in1 (Builtin.List.listExtendWith (.ref s.heap.objs.size) (.ref S) (.ref s.heap.objs.size)) _ _ _
 have key:=Du (prog:=prog) (A:=A) (s:={ s with heap:=s.heap.push { cls:=.type "list",data:=.seq ([]:List Value).toArray } })
  (R:=fun (q:Result) (s':Shared)=>∃(h':Heap) (d:Drawn) (tk:Nat) (us:List Value) (c':Nat),q=.ok (.ret (.ref s.heap.objs.size))∧s'={ s with heap:=h',drawn:=d,toks:=tk }∧us.Perm (es.toList.map (·.2))∧(∀b o,s.heap.get? b=some o→h'.get? b=some o)∧h'.get? s.heap.objs.size=some { cls:=.type "list",dict:=none,data:=.seq us.toArray c',slots:=#[] })
  hh (hs.at fun o e=>Heap.get?_push_of_some _ e) hb (Nat.ne_of_gt ltS) g0 (.ref s.heap.objs.size) (fun h' d tk us c' pm kk g=>⟨h',d,tk,us,c',rfl,rfl,pm,fun b o e=>kk b o (Nat.ne_of_lt (Heap.lt_size e)) (Heap.get?_push_of_some _ e),g⟩)
 refine wpAny_mono key (fun fin s' x=>?_) fun e s' x=>?_
 ·cases fin with
  | done f=>
   obtain ⟨h',d,tk,us,c',e,rfl,pm,kk,g⟩:=x
   cases e
   show wpAny _ A (load s.heap.objs.size >>= _) _ _ _
   exact wpAny_bind (wpAny_load g (wpAny_pure (h h' d tk us pm (Nat.le_of_lt (Heap.lt_size g)) kk)))
  | again c1=>
   refine ⟨x.1,codeAny_mono x.2 fun q s2 y=>?_⟩
   obtain ⟨h',d,tk,us,c',rfl,rfl,pm,kk,g⟩:=y
   show wpAny _ A (load s.heap.objs.size >>= _) _ _ _
   exact wpAny_bind (wpAny_load g (wpAny_pure (h h' d tk us pm (Nat.le_of_lt (Heap.lt_size g)) kk)))
 ·obtain ⟨_,_,_,_,_,e',_⟩:=x
  cases e'
end
end L2
namespace L2
open PySem PySem.Spec PySem.W PyProof.Rows
section
variable {prog:Program} {w:World} {A:Around} {E:Value→Shared→Prop} {s:Shared} {S:Addr} {es:Array (Int×Value)} {ep:Nat} {t:SetTable}
theorem nF {Ok:List Value→Prop} {Q:Value→Shared→Prop} (hh:A.handled=none) (hs:lq (bt w) s.heap S es ep t) (few:es.size < 64)
  (srt:∀us:List Value,us.Perm (es.toList.map (·.2))→∀(B:Around) (s1:Shared) (a:Addr) (n:Nat) (P:Fin→Shared→Prop) (E':Value→Shared→Prop),s1.heap.get? a=some (seqObj "list" us.toArray n)→
   (∀out:Array Value,Ok out.toList→P (.done (.ret .none)) { s1 with heap:=sortedHeap s1.heap a us out })→wpAny (model prog w) B (Builtin.«list.sort» ⟨[.ref a],[]⟩) P E' s1)
  (h:∀(D:Addr) (h':Heap) (d:Drawn) (tk c:Nat) (out:Array Value),Ok out.toList→s.heap.objs.size≤D→(∀b o,s.heap.get? b=some o→h'.get? b=some o)→h'.get? D=some (seqObj "list" out c)→Q (.ref D) { s with heap:=h',drawn:=d,toks:=tk }):
  wpAny (model prog w) A (call (.builtin "sorted") [.ref S]) Q E s:=by
 refine Calls.call_function_entry kind_sorted plain_sorted entry_sorted (args_sorted1 _) ?_
 unfold Builtin.«sorted»
 refine wpAny_bind (m:=checkCount "sorted" 1 1 _) (wpAny_pure (wpAny_bind (Al (A:=A.in1) hh hs (by unfold scanBound; omega) fun h1 d tk us pm ge kk=>?_)))
 have lu:us.length=es.size:=by rw [pm.length_eq,List.length_map,Array.length_toList]
 refine wpAny_bind (wpAny_newList ?_ (by rw [sizeLine_eq]; omega))
 have gL:(h1.push (seqObj "list" us.toArray 0)).get? h1.objs.size=some (seqObj "list" us.toArray 0):=Heap.get?_push_size _ rfl
 refine wpAny_bind (wpAny_holding (wpAny_call_entry slot_list_sort ⟨_,gL,rfl⟩ entry_list_sort (srt us pm _ { s with heap:=h1.push (seqObj "list" us.toArray 0),drawn:=d,toks:=tk } _ 0 _ _ gL fun out ok=>⟨_,rfl,?_⟩) (args_list_sort _)))
 obtain ⟨c,gD⟩:=sortedHeap_at (out:=out) gL
 refine wpAny_pure ⟨_,rfl,h h1.objs.size _ d tk c out ok ge (fun b o e=>?_) gD⟩
 have lb:b < h1.objs.size:=Heap.lt_size (kk b o e)
 show (sortedHeap (h1.push (seqObj "list" us.toArray 0)) h1.objs.size us out).get? b=some o
 rw [sortedHeap_old (Nat.ne_of_lt lb) (by rw [Heap.size_push]; exact Nat.lt_succ_of_lt lb)]
 exact Heap.get?_push_of_some _ (kk b o e)
end
end L2
namespace L2
open PySem PySem.Spec PySem.W PyProof.Rows
theorem Inv.drew {X:Cx} {pins:List (Addr×Obj)} {σ:St} {H:Hp} {s:Shared} (d:Drawn) (I:Inv X pins σ H s):Inv X pins σ H { s with drawn:=d }:=
 I.call (g':=s.gens) (t':=s.toks) (d':=d) (ch:=[]) (Un.kept fun _ _ e=>e) (I.hok.kept fun _ _ e=>e) I.bare (fun _ z=>nomatch z)
theorem uA {α:Type} (l:List α) (d:α):(List.range l.length).map (fun i=>l.getD i d)=l:=by
 refine List.ext_getElem (by simp) fun i h1 h2=>?_
 simp [h2]
section
variable {X:Cx} {T:Type} [DecidableEq T] {knd:PySem.KeyKind X.prog X.w T} {l:Expr} {tl:TE} {p1 p2 pos1 pos2:Pos}
theorem Am (mk:T→V) (dflt:T) (hk:∀k v,RelV (mk k) v→knd.is k v=true∧v.scannable=true) (hc:X.calm=true) (hl:PE X l tl) (g2:Gl X "set") (m2:X.mg "set"=none) {pins:List (Addr×Obj)} {s:Shared} {σ:St} {H:Hp} {R:List T→Hp→Prop} (I:Inv X pins σ H s)
  (h:tl σ H fun x H1=>∃(a:Addr) (ns:List T),[x]=[V.ref a]∧cJ X.K H1 a (ns.map mk)∧ns.length < 64∧R ns H1) (he:starEach [l] X.env=(false,eval l X.env)::starEach [] X.env:=by rfl) (hpl:(backTo pos2 (starEach [] X.env)).any (·.1)=false:=by rfl):
  wpAny (model X.prog X.w) X.A (eval (.Call (.Name "set" p2) [l] [] pos2) X.env) (fun v s'=>∃(S:Addr) (ns:List T) (H1:Hp),v=.ref S∧Inv X pins σ H1 s'∧iw knd s'.heap S (dedup ns)∧ns.length < 64∧R ns H1) X.xe s:=by
 refine wpAny_Call_Name_kw (gP I g2 m2 (u:=.type "set") rfl ?_)
 refine PyProof.Rows.callWith_type1 (cF (dw hl jb he pos2 pins s σ H (fun vs H1=>∃(a:Addr) (ns:List T),vs=[V.ref a]∧cJ X.K H1 a (ns.map mk)∧ns.length < 64∧R ns H1) I h) fun us s1 aR=>?_) he hpl
 obtain ⟨vs,H1,I1,r1,q1⟩:=aR
 obtain ⟨a,ns,rfl,ha,h64,q⟩:=q1
 obtain ⟨u,rfl,ru⟩:=vals1 r1
 cases ru
 obtain ⟨its,rv,pl,_⟩:=I1.list ha
 have ln:its.length=ns.length:=by rw [←rv.length,List.length_map]
 have at':∀i v,its.toArray[i]?=some v→knd.is (ns.getD i dflt) v=true∧v.scannable=true:=fun i v e=>by
  rw [List.getElem?_toArray] at e
  have hi:i < its.length:=(List.getElem?_eq_some_iff.mp e).1
  have r:=Vals.get (i:=i) (x:=mk (ns.getD i dflt)) rv (by simp [List.getElem?_map,List.getElem?_eq_getElem (ln ▸ hi),List.getD])
  obtain ⟨v',e',r'⟩:=r
  rw [e] at e'
  cases e'
  exact hk _ _ r'
 refine Io (knd:=knd) (val:=fun i=>ns.getD i dflt) (I1.ok.hd hc) pl.isList at' (by rw [List.size_toArray,ln]; unfold scanBound; omega) fun h' tk hS kk=>?_
 have e0:(List.range its.toArray.size).map (fun i=>ns.getD i dflt)=ns:=by rw [show its.toArray.size=ns.length from (List.size_toArray ..).trans ln,uA]
 rw [e0] at hS
 exact ⟨_,ns,H1,rfl,I1.kept kk,hS,h64,q⟩
end
noncomputable def Uq:Value→Int
 | .int k _=>k
 | _=>0
theorem An:∀(us:List Value),(∀v,v∈us→∃k t,v=.int k t)→IntsAre us (us.map Uq)
 | [],_=>.nil
 | v::us,h=>by
  obtain ⟨k,t,rfl⟩:=h v (List.mem_cons_self ..)
  exact .cons k t (An us fun x hx=>h x (List.mem_cons_of_mem _ hx))
section
variable {prog:Program} {w:World}
theorem K8 {es:List (Int×Value)} {ks:List Int} (h:vR (PySem.intKind prog w) es ks):(es.map (·.2)).map Uq=ks∧∀v,v∈es.map (·.2)→∃k t,v=.int k t:=by
 induction h with
 | nil=>exact ⟨rfl,fun v hv=>by cases hv⟩
 | @cons e k es ks a _ ih=>
  obtain ⟨t,ht⟩:=Value.isInt_shape (show Value.isInt k e.2=true from a.1)
  refine ⟨by rw [List.map_cons,List.map_cons,ih.1,ht]; rfl,fun v hv=>?_⟩
  rcases List.mem_cons.mp hv with rfl | hv
  ·exact ⟨k,t,ht⟩
  ·exact ih.2 v hv
theorem Ao {es:List (Int×Value)} {ks:List Str} (h:vR (PySem.strKind prog w) es ks):(es.map (·.2)).map strOf=ks∧∀v,v∈es.map (·.2)→∃x t,v=.str x t:=by
 induction h with
 | nil=>exact ⟨rfl,fun v hv=>by cases hv⟩
 | @cons e k es ks a _ ih=>
  obtain ⟨t,ht⟩:=Value.isStrOf_shape (show Value.isStrOf k e.2=true from a.1)
  refine ⟨by rw [List.map_cons,List.map_cons,ih.1,ht]; rfl,fun v hv=>?_⟩
  rcases List.mem_cons.mp hv with rfl | hv
  ·exact ⟨k,t,ht⟩
  ·exact ih.2 v hv
end
noncomputable def Ww (K:PySem.W.Frag) (tl:TE):TE:=fun σ H Q=>tl σ H fun x H1=>∃(a:Addr) (ns:List Int),[x]=[V.ref a]∧cJ K H1 a (ns.map V.int)∧ns.length < 64∧∀(D:Addr) (ns':List Int),H1 D=none→ns'.Perm (dedup ns)→ns'.Pairwise (·≤·)→Q (.ref D) (upd H1 D (.lst (ns'.map V.int)))
noncomputable def Wx (K:PySem.W.Frag) (tl:TE):TE:=fun σ H Q=>tl σ H fun x H1=>∃(a:Addr) (ns:List Str),[x]=[V.ref a]∧cJ K H1 a (ns.map V.str)∧ns.length < 64∧∀(D:Addr) (ns':List Str),H1 D=none→ns'.Perm (dedup ns)→sortedS ns'=true→Q (.ref D) (upd H1 D (.lst (ns'.map V.str)))
section
variable {X:Cx} {l:Expr} {tl:TE} {p1 p2 pos1 pos2:Pos}
theorem Aq (hc:X.calm=true) (hl:PE X l tl) (g1:Gl X "sorted") (m1:X.mg "sorted"=none) (g2:Gl X "set") (m2:X.mg "set"=none)
  (he:starEach [.Call (.Name "set" p2) [l] [] pos2] X.env=(false,eval (.Call (.Name "set" p2) [l] [] pos2) X.env)::starEach [] X.env:=by rfl) (hpl:(backTo pos1 (starEach [] X.env)).any (·.1)=false:=by rfl)
  (he2:starEach [l] X.env=(false,eval l X.env)::starEach [] X.env:=by rfl) (Dv:(backTo pos2 (starEach [] X.env)).any (·.1)=false:=by rfl):
  PE X (.Call (.Name "sorted" p1) [.Call (.Name "set" p2) [l] [] pos2] [] pos1) (Ww X.K tl):=by
 intro pins s σ H Q I h
 refine wpAny_Call_Name_kw (gP I g1 m1 (u:=.builtin "sorted") rfl ?_)
 refine PyProof.Rows.callWith_builtin1 ?_ he hpl
 rw [he]
 show wpAny _ _ (spliced ((false,eval (.Call (.Name "set" p2) [l] [] pos2) X.env)::backTo pos1 (starEach [] X.env))) _ _ s
 refine Calls.spliced_cons (cF (Am (knd:=PySem.intKind X.prog X.w) V.int 0 (fun k v r=>?_) hc hl g2 m2 I h he2 Dv) fun v s1 ⟨S,ns,H1,e,I1,hS,h64,q⟩=>Calls.spliced_nil ?_)
 ·obtain ⟨t,rfl⟩:=r
  exact ⟨PySem.intKind_is _ _ _ _,rfl⟩
 subst e
 obtain ⟨o,es,ep,t,ho,ex,hd,⟨ks',ek,pk⟩,hb,hf,tb⟩:=hS
 obtain ⟨e1,e2⟩:=K8 ek
 have few:es.size < 64:=by
  have:=dY ns
  rw [←Array.length_toList,ek.len,pk.length_eq]
  omega
 refine nF (Ok:=fun out=>∃ns',IntsAre out ns'∧ns'.Perm (dedup ns)∧ns'.Pairwise (·≤·)) (I1.ok.hd hc) ⟨o,ho,ex,hd,hf,tb⟩ few (fun us pm B s2 a n P E' ho' hp=>?_) fun D h' d tk c out ok ge kk gD=>?_
 ·refine list_sort_tree ho' (An us fun v hv=>e2 v (pm.mem_iff.mp hv)) (by rw [pm.length_eq,List.length_map,Array.length_toList]; exact few) fun out ns' a1 a2 a3=>hp out ⟨ns',a1,a2.trans ?_,a3⟩
  exact (pm.map Uq).trans (by rw [e1]; exact pk)
 ·obtain ⟨ns',a1,a2,a3⟩:=ok
  have hz:ns'.length≤sizeLine:=by
   have:=dY ns
   rw [a2.length_eq,sizeLine_eq]
   omega
  exact ⟨.ref D,_,(I1.laid (o:=.lst (ns'.map V.int)) (t':=tk) kk ge ⟨by rw [List.length_map]; exact hz,out.toList,c,mF a1,by simpa [seqObj] using gD⟩).drew d,rfl,q D ns' (I1.hok.fresh ge) a2 a3⟩
theorem Ar (hc:X.calm=true) (hl:PE X l tl) (g1:Gl X "sorted") (m1:X.mg "sorted"=none) (g2:Gl X "set") (m2:X.mg "set"=none)
  (he:starEach [.Call (.Name "set" p2) [l] [] pos2] X.env=(false,eval (.Call (.Name "set" p2) [l] [] pos2) X.env)::starEach [] X.env:=by rfl) (hpl:(backTo pos1 (starEach [] X.env)).any (·.1)=false:=by rfl)
  (he2:starEach [l] X.env=(false,eval l X.env)::starEach [] X.env:=by rfl) (Dv:(backTo pos2 (starEach [] X.env)).any (·.1)=false:=by rfl):
  PE X (.Call (.Name "sorted" p1) [.Call (.Name "set" p2) [l] [] pos2] [] pos1) (Wx X.K tl):=by
 intro pins s σ H Q I h
 refine wpAny_Call_Name_kw (gP I g1 m1 (u:=.builtin "sorted") rfl ?_)
 refine PyProof.Rows.callWith_builtin1 ?_ he hpl
 rw [he]
 show wpAny _ _ (spliced ((false,eval (.Call (.Name "set" p2) [l] [] pos2) X.env)::backTo pos1 (starEach [] X.env))) _ _ s
 refine Calls.spliced_cons (cF (Am (knd:=PySem.strKind X.prog X.w) V.str ⟨#[]⟩ (fun k v r=>?_) hc hl g2 m2 I h he2 Dv) fun v s1 ⟨S,ns,H1,e,I1,hS,h64,q⟩=>Calls.spliced_nil ?_)
 ·obtain ⟨t,rfl⟩:=r
  exact ⟨PySem.strKind_is _ _ _ _,rfl⟩
 subst e
 obtain ⟨o,es,ep,t,ho,ex,hd,⟨ks',ek,pk⟩,hb,hf,tb⟩:=hS
 obtain ⟨e1,e2⟩:=Ao ek
 have few:es.size < 64:=by
  have:=dY ns
  rw [←Array.length_toList,ek.len,pk.length_eq]
  omega
 refine nF (Ok:=fun out=>∃ns',StrsAre out ns'∧ns'.Perm (dedup ns)∧sortedS ns'=true) (I1.ok.hd hc) ⟨o,ho,ex,hd,hf,tb⟩ few (fun us pm B s2 a n P E' ho' hp=>?_) fun D h' d tk c out ok ge kk gD=>?_
 ·have hS:StrsAre us (us.map strOf):=strsAre_map us fun v hv=>e2 v (pm.mem_iff.mp hv)
  refine list_sort_treeK strKind_oneLt ho' hS.keysOf (fun v1 v2 rest e=>keyKind_strs (by rw [←e]; exact hS)) (by rw [pm.length_eq,List.length_map,Array.length_toList]; exact few) fun st hp1 hp2=>?_
  obtain ⟨ss',b1,b2,b3⟩:=sorted_out_str hS hp1 hp2
  exact hp _ ⟨ss',b1,b2.trans ((pm.map strOf).trans (by rw [e1]; exact pk)),b3⟩
 ·obtain ⟨ns',a1,a2,a3⟩:=ok
  have hz:ns'.length≤sizeLine:=by
   have:=dY ns
   rw [a2.length_eq,sizeLine_eq]
   omega
  exact ⟨.ref D,_,(I1.laid (o:=.lst (ns'.map V.str)) (t':=tk) kk ge ⟨by rw [List.length_map]; exact hz,out.toList,c,mG a1,by simpa [seqObj] using gD⟩).drew d,rfl,q D ns' (I1.hok.fresh ge) a2 a3⟩
end
end L2
namespace L2
open PySem PySem.Spec PySem.W PyProof.Rows
section
variable {prog:Program} {w:World} {A:Around} {E:Value→Shared→Prop} {s:Shared} {R:Result→Shared→Prop} {I S:Addr} {fp wr:List Addr} {n:Nat} {Pv:Nat→Value→Prop} {St:Nat→Heap→Prop} {bt:Nat→Nat→Bool}
noncomputable def Wy (v:Value) (c:Nat):Obj:={ cls:=.type "list",dict:=none,data:=.seq #[v,v] c,slots:=#[] }
theorem Pn (W:Walks prog w A.in1 I fp wr n Pv St) (cmp:CmpOf prog w A.in1 .Gt Pv bt) (out:S∉fp) (kw:List (Str×Value)):∀(m j:Nat) (s:Shared) (vb:Value) (c:Nat),n - (j + 1)=m→j + 1≤n→St (j + 1) s.heap→Pv (argBest bt j) vb→s.heap.get? S=some (Wy vb c)→
  (∀v h' tk,Pv (argBest bt (n - 1)) v→(∀b o,b∉wr→b≠S→s.heap.get? b=some o→h'.get? b=some o)→R (.ok (.ret v)) { s with heap:=h',toks:=tk })→codeAny (model prog w) A (.builtin "max.loop" ⟨[.ref I,.none,.ref S],kw⟩) R s:=by
 have Dr:S∉wr:=fun z=>out (W.sub _ z)
 have nm:(toString "max"++toString ".loop":String)="max.loop":=by decide
 intro m
 induction m with
 | zero=>
  intro j s vb c hm hj st pb hS hR
  have last:j + 1=n:=by omega
  refine codeAny_builtin PySem.F.entry_max_loop ?_; rw [Around.under_plainId PySem.F.plain_max_loop _]
  show wpAny _ A.in1 (seqItems? (.ref S) >>= _) _ _ s; refine wpAny_bind (wpAny_seqItems hS rfl ?_)
  show wpAny _ A.in1 (tryCatch (pyNext (.ref I)) _ >>= _) _ _ s; refine wpAny_bind (wpAny_tryCatch (W.done s _ _ (last ▸ st) fun h' tk kk=>?_))
  have g:=kk S _ Dr hS
  show wpAny _ A.in1 (updateSeq S (fun _=>#[]) >>= _) _ _ _; refine wpAny_bind (wpAny_updateSeq g rfl (wpAny_bind (wpAny_letGo (wpAny_pure ?_))))
  exact hR vb _ tk (by rw [←last]; exact pb) fun b o hb hbS e=>(Heap.get?_update_other _ _ (Ne.symm hbS)).trans (kk b o hb e)
 | succ m ih=>
  intro j s vb c hm hj st pb hS hR
  have lt:j + 1 < n:=by omega
  refine codeAny_builtin PySem.F.entry_max_loop ?_; rw [Around.under_plainId PySem.F.plain_max_loop _]
  show wpAny _ A.in1 (seqItems? (.ref S) >>= _) _ _ s; refine wpAny_bind (wpAny_seqItems hS rfl ?_)
  show wpAny _ A.in1 (tryCatch (pyNext (.ref I)) _ >>= _) _ _ s; refine wpAny_bind (wpAny_tryCatch (W.item (j + 1) s _ _ lt st fun v h' tk pv st' kk=>?_))
  have g:=kk S _ Dr hS
  show wpAny _ A.in1 (tryCatch (holding [v,v] (richCompare .Gt v vb >>= _)) _ >>= _) _ _ _; refine wpAny_bind (wpAny_tryCatch (wpAny_holding (wpAny_bind (cmp (j + 1) (argBest bt j) v vb _ _ _ pv pb ?_))))
  refine wpAny_bind (wpAny_holding (wpAny_truthy_bool (wpAny_bind (wpAny_letGo (wpAny_pure ?_)))))
  cases hb:bt (j + 1) (argBest bt j) with
  | true=>
   simp only [if_true]
   refine wpAny_bind (wpAny_updateSeq g rfl (wpAny_bind (wpAny_letGo ?_))); rw [nm]
   refine wpAny_pure ⟨plainId_quiet PySem.F.plain_max_loop _,ih (j + 1) _ v _ (by omega) lt (W.frame _ _ _ st' fun b hbf o e=>(Heap.get?_update_other _ _ fun z:S=b=>out (z ▸ hbf)).trans e) (by simp only [argBest,hb,if_true]; exact pv) (Heap.get?_update_self _ g rfl) fun v' h2 tk2 Wz Rz=>?_⟩
   exact hR v' h2 tk2 Wz fun b o hb' hbS e=>Rz b o hb' hbS ((Heap.get?_update_other _ _ (Ne.symm hbS)).trans (kk b o hb' e))
  | false=>
   simp only [Bool.false_eq_true,if_false]
   refine wpAny_bind (wpAny_letGo ?_); rw [nm]
   refine wpAny_pure ⟨plainId_quiet PySem.F.plain_max_loop _,ih (j + 1) _ vb c (by omega) lt st' (by simp only [argBest,hb,Bool.false_eq_true,if_false]; exact pb) g fun v' h2 tk2 Wz Rz=>?_⟩
   exact hR v' h2 tk2 Wz fun b o hb' hbS e=>Rz b o hb' hbS (kk b o hb' e)
theorem Pq (W:Walks prog w A.in1 I fp wr n Pv St) (cmp:CmpOf prog w A.in1 .Gt Pv bt) (out:S∉fp) {k:Str} {d:Value} {c:Nat} (st:St 0 s.heap) (hS:s.heap.get? S=some { cls:=.type "list",dict:=none,data:=.seq #[] c,slots:=#[] })
  (hR:∀v h' tk,(if n=0 then v=d else Pv (argBest bt (n - 1)) v)→(∀b o,b∉wr→b≠S→s.heap.get? b=some o→h'.get? b=some o)→R (.ok (.ret v)) { s with heap:=h',toks:=tk }):codeAny (model prog w) A (.builtin "max.loop" ⟨[.ref I,.none,.ref S],[(k,d)]⟩) R s:=by
 have Dr:S∉wr:=fun z=>out (W.sub _ z)
 have nm:(toString "max"++toString ".loop":String)="max.loop":=by decide
 refine codeAny_builtin PySem.F.entry_max_loop ?_; rw [Around.under_plainId PySem.F.plain_max_loop _]
 show wpAny _ A.in1 (seqItems? (.ref S) >>= _) _ _ s; refine wpAny_bind (wpAny_seqItems hS rfl ?_)
 by_cases h0:n=0
 ·show wpAny _ A.in1 (tryCatch (pyNext (.ref I)) _ >>= _) _ _ s; refine wpAny_bind (wpAny_tryCatch (W.done s _ _ (h0 ▸ st) fun h' tk kk=>?_))
  show wpAny _ A.in1 (rule _ >>= fun _=>ret d) _ _ _
  exact wpAny_bind (wpAny_rule (wpAny_pure (hR d h' tk (by rw [if_pos h0]) fun b o hb _ e=>kk b o hb e)))
 ·show wpAny _ A.in1 (tryCatch (pyNext (.ref I)) _ >>= _) _ _ s; refine wpAny_bind (wpAny_tryCatch (W.item 0 s _ _ (by omega) st fun v h' tk pv st' kk=>?_))
  have g:=kk S _ Dr hS
  show wpAny _ A.in1 (updateSeq S (fun _=>#[v,v]) >>= _) _ _ _; refine wpAny_bind (wpAny_updateSeq g rfl ?_); rw [nm]
  refine wpAny_pure ⟨plainId_quiet PySem.F.plain_max_loop _,Pn W cmp out _ _ 0 _ v _ rfl (by omega) (W.frame _ _ _ st' fun b hbf o e=>(Heap.get?_update_other _ _ fun z:S=b=>out (z ▸ hbf)).trans e) pv (Heap.get?_update_self _ g rfl) fun v' h2 tk2 Wz Rz=>?_⟩
  exact hR v' h2 tk2 (by rw [if_neg h0]; exact Wz) fun b o hb' hbS e=>Rz b o hb' hbS ((Heap.get?_update_other _ _ (Ne.symm hbS)).trans (kk b o hb' e))
end
end L2
namespace L2
open PySem PySem.Spec PySem.W PyProof.Rows
section
variable {prog:Program} {w:World} {A:Around} {E:Value→Shared→Prop} {s:Shared}
theorem IK (a d:Value):argsOk "max" ⟨[a],[("default",d)]⟩:=by unfold argsOk; kernel_rfl
noncomputable def maxD (d:Int):List Int→Int
 | []=>d
 | n::ns=>ns.foldl max n
theorem Av (val:Nat→Int):∀k,val (argBest (fun i j=>decide (val i > val j)) k)=((List.range k).map fun i=>val (i + 1)).foldl max (val 0)
 | 0=>rfl
 | k + 1=>by
  rw [List.range_succ,List.map_append,List.foldl_append,←Av val k]
  rw [show argBest (fun i j=>decide (val i > val j)) (k + 1)=if decide (val (k + 1) > val (argBest (fun i j=>decide (val i > val j)) k)) then k + 1 else argBest (fun i j=>decide (val i > val j)) k from rfl]
  by_cases h:val (k + 1) > val (argBest (fun i j=>decide (val i > val j)) k)
  ·rw [if_pos (decide_eq_true h)]
   show val (k + 1)=max _ (val (k + 1))
   omega
  ·rw [if_neg (by simpa using h)]
   show _=max _ (val (k + 1))
   omega
theorem Pr (ns:List Int) (h:0 < ns.length) (d:Int):ns.getD (argBest (fun i j=>decide (ns.getD i 0 > ns.getD j 0)) (ns.length - 1)) 0=maxD d ns:=by
 have:=Av (fun i=>ns.getD i 0) (ns.length - 1)
 rw [show ns.getD (argBest (fun i j=>decide (ns.getD i 0 > ns.getD j 0)) (ns.length - 1)) 0=_ from this]
 cases ns with
 | nil=>cases h
 | cons a as=>
  show _=as.foldl max a
  have e:(List.range ((a::as).length - 1)).map (fun i=>(a::as).getD (i + 1) 0)=as:=by
   rw [List.length_cons,Nat.add_sub_cancel]
   refine List.ext_getElem (by simp) fun i h1 h2=>?_
   simp [h2]
  rw [e]
  rfl
theorem yM {id:String} {b:Builtin} {as:List Value} {kw:List (Str×Value)} {Q:Value→Shared→Prop} (hk:builtinKind id=none) (hp:plainId id=true) (hb:entryFor table id=some b) (ha:argsOk id ⟨as,kw⟩)
  (hc:wpAny (model prog w) A.in1 (b ⟨as,kw⟩) (fun fin s'=>match fin with
   | .done f=>(match (Except.ok f:Result) with | .ok (.ret v)=>Q v s' | .ok _=>False | .error e=>E e s')
   | .again c'=>c'.quiet=true∧codeAny (model prog w) A c' (fun r s'=>match r with | .ok (.ret v)=>Q v s' | .ok _=>False | .error e=>E e s') s') E s):wpAny (model prog w) A (call (.builtin id) as kw) Q E s:=by
 refine wpAny_call (codeAny_call_builtin hp hb ?_)
 simp only [checkBuiltinCall,hk]
 cases hg:Manifest.signature? id with
 | none=>exact wpAny_pure hc
 | some sg=>
  simp only [argsOk,hg] at ha
  show wpAny _ A.in1 (Bind.checkArgs id sg ⟨as,kw⟩) _ _ s
  rw [show Bind.checkArgs id sg ⟨as,kw⟩=pure () from ha]
  exact wpAny_pure hc
theorem IV {l:Addr} {its:List Value} {ns:List Int} {d:Value} {Q:Value→Shared→Prop} (hh:A.handled=none) (hl:s.heap.IsList l its.toArray) (hi:IntsAre its ns)
  (h:∀(v:Value) (h':Heap) (tk:Nat),(if ns=[] then v=d else ∃t,v=Value.int (maxD 0 ns) t)→(∀b o,s.heap.get? b=some o→h'.get? b=some o)→Q v { s with heap:=h',toks:=tk }):wpAny (model prog w) A (call (.builtin "max") [.ref l] [("default",d)]) Q E s:=by
 have nm:(toString "max"++toString ".loop":String)="max.loop":=by decide
 have ln:its.length=ns.length:=hi.length
 have ltl:l < s.heap.objs.size:=by obtain ⟨o,ho,_⟩:=hl; exact Heap.lt_size ho
 refine yM PySem.F.kind_max PySem.F.plain_max PySem.F.entry_max (IK _ _) ?_
 show wpAny _ A.in1 (Builtin.Builtins.bindParams "max" ["key","default"] 0 ⟨[],[("default",d)]⟩ >>= _) _ _ s
 refine wpAny_bind (wpAny_of_eq (show Builtin.Builtins.bindParams "max" ["key","default"] 0 ⟨[],[("default",d)]⟩=pure [none,some d] from rfl) (wpAny_bind (wpAny_pure ?_)))
 refine wpAny_bind (wpAny_pyIter_list hl (wpAny_bind (wpAny_newObj_type ?_)))
 rw [nm]
 have RB:(s.heap.push { cls:=.type "list_iterator",data:=.fields #[.ref l,.int 0 0] }).objs.size=s.heap.objs.size + 1:=Heap.size_push ..
 have W:=Walks.list (prog:=prog) (w:=w) (A:=A.in1) (by simp [hh]) s.heap.objs.size l (Nat.ne_of_lt ltl) its.toArray
 have val:∀(i:Nat) (v:Value),its.toArray[i]?=some v→∃t,v=Value.int (ns.getD i 0) t:=fun i v hv=>IntsAre.int_at hi i v (by simpa using hv)
 refine wpAny_pure ⟨plainId_quiet PySem.F.plain_max_loop _,?_⟩
 show codeAny (model prog w) A (.builtin "max.loop" ⟨[.ref s.heap.objs.size,.none,.ref (s.heap.push { cls:=.type "list_iterator",data:=.fields #[.ref l,.int 0 0] }).objs.size],[("default",d)]⟩) _ { s with heap:=(s.heap.push { cls:=.type "list_iterator",data:=.fields #[.ref l,.int 0 0] }).push { cls:=.type "list",data:=.seq #[] } }
 refine Pq W (CmpOf.ints_gt (fun i=>ns.getD i 0) val) ?_ ⟨⟨_,Heap.get?_push_of_some _ (Heap.get?_push_size _ rfl),rfl,rfl⟩,(hl.push _).push _⟩ (Heap.get?_push_size _ rfl) fun v h' tk hv kk=>?_
 ·rw [RB]
  simp only [List.mem_cons,List.not_mem_nil,or_false,not_or]
  exact ⟨Nat.ne_of_gt (Nat.lt_succ_self _),Nat.ne_of_gt (Nat.lt_succ_of_lt ltl)⟩
 ·refine h v h' tk ?_ fun b o e=>kk b o ?_ ?_ (Heap.get?_push_of_some _ (Heap.get?_push_of_some _ e))
  ·by_cases hn:ns=[]
   ·rw [if_pos hn]
    rw [if_pos (by rw [List.size_toArray,ln,hn]; rfl)] at hv
    exact hv
   ·rw [if_neg hn]
    have pos:0 < ns.length:=List.length_pos_iff.mpr hn
    rw [if_neg (by rw [List.size_toArray,ln]; omega),List.size_toArray,ln] at hv
    obtain ⟨t,e⟩:=val _ v hv
    rw [Pr ns pos 0] at e
    exact ⟨t,e⟩
  ·simp only [List.mem_cons,List.not_mem_nil,or_false]
   exact Nat.ne_of_lt (Heap.lt_size e)
  ·rw [RB]
   exact Nat.ne_of_lt (Nat.lt_succ_of_lt (Heap.lt_size e))
end
noncomputable def WD (K:PySem.W.Frag) (tl td:TE):TE:=fun σ H Q=>tl σ H fun x H1=>td σ H1 fun y H2=>∃(a:Addr) (ns:List Int) (k:Int),x=.ref a∧y=.int k∧cJ K H2 a (ns.map V.int)∧Q (.int (maxD k ns)) H2
section
variable {X:Cx} {l de:Expr} {tl td:TE} {p pos kp:Pos}
theorem Pu (hc:X.calm=true) (hl:PE X l tl) (hd:PE X de td) (hg:Gl X "max") (hm:X.mg "max"=none) (he:starEach [l] X.env=(false,eval l X.env)::starEach [] X.env:=by rfl):PE X (.Call (.Name "max" p) [l] [⟨some "default",de,kp⟩] pos) (WD X.K tl td):=by
 intro pins s σ H Q I h
 refine wpAny_Call_Name_kw (gP I hg hm (u:=.builtin "max") rfl ?_)
 have he2:backTo pos (starEach [l] X.env)=(false,eval l X.env)::backTo pos (starEach [] X.env):=by rw [he]; rfl
 refine callWith_kw (e:=l) (rest:=[]) ?_ (he:=he2) (hplain:=by rw [he2]; rfl)
 show wpAny _ _ (spliced (backTo pos (starEach [l] X.env))) _ _ s
 rw [he]
 show wpAny _ _ (spliced ((false,eval l X.env)::backTo pos (starEach [] X.env))) _ _ s
 refine Calls.spliced_cons (cF (hl pins s σ H _ I h) fun v s1 ⟨x,H1,I1,r1,q1⟩=>Calls.spliced_nil ?_)
 refine kws_cons (cF (hd pins s1 σ H1 _ I1 q1) fun u s2 ⟨y,H2,I2,r2,a,ns,k,ex,ey,ha,q2⟩=>kws_nil ?_)
 subst ex ey
 cases r1
 obtain ⟨t,rfl⟩:=r2
 obtain ⟨its,rv,pl,_⟩:=I2.list ha
 refine IV (I2.ok.hd hc) pl.isList (intsAre_of rv) fun v h' tk hv kk=>⟨.int (maxD k ns),H2,I2.kept kk,?_,q2⟩
 by_cases hn:ns=[]
 ·rw [if_pos hn] at hv
  rw [hn,hv]
  exact ⟨t,rfl⟩
 ·rw [if_neg hn] at hv
  obtain ⟨t',e⟩:=hv
  rw [e]
  cases ns with
  | nil=>exact absurd rfl hn
  | cons n ns=>exact ⟨t',rfl⟩
end
end L2
namespace L2
open PySem PySem.Spec PyProof.Rows PySem.W
noncomputable def cZ:PyData→Option Key
 | .int i=>some (.inl i)
 | .str x=>some (.inr x)
 | _=>none
noncomputable def keysOf:List PyData→Option (List Key)
 | []=>some []
 | d::r=>match cZ d,keysOf r with
  | some k,some t=>some (k::t)
  | _,_=>none
noncomputable def cO:PyData→Option (List Key)
 | .tuple ds=>keysOf ds
 | _=>none
noncomputable def cz {κ:Type} (f:PyData→Option κ):List (PyData×PyData)→Option (List κ)
 | []=>some []
 | p::r=>match f p.1,cz f r with
  | some k,some t=>some (k::t)
  | _,_=>none
noncomputable def RG (H:Hp) (a:Addr) (kvs:List (PyData×PyData)) (vs:List V):Prop:=
 (∃ks,cz cZ kvs=some ks∧H a=some (.dK (ks.zip vs)))∨∃ks,(kvs≠[]∧cz cO kvs=some ks)∧H a=some (.dT (ks.zip vs))
mutual
noncomputable def RZ (H:Hp):PyData→V→Prop
 | .none,v=>v=.non
 | .bool b,v=>v=.bl b
 | .int i,v=>v=.int i
 | .str x,v=>v=.str x
 | .list ds,v=>∃a vs,v=.ref a∧H a=some (.lst vs)∧dJ H ds vs
 | .tuple ds,v=>∃a vs,v=.ref a∧H a=some (.tup vs)∧dJ H ds vs
 | .dict kvs,v=>∃a vs,v=.ref a∧RG H a kvs vs∧oF H kvs vs
noncomputable def dJ (H:Hp):List PyData→List V→Prop
 | [],vs=>vs=[]
 | d::ds,vs=>∃v r,vs=v::r∧RZ H d v∧dJ H ds r
noncomputable def oF (H:Hp):List (PyData×PyData)→List V→Prop
 | [],vs=>vs=[]
 | p::r,vs=>∃v t,vs=v::t∧RZp H p v∧oF H r t
noncomputable def RZp (H:Hp):PyData×PyData→V→Prop
 | (_,d),v=>RZ H d v
end
theorem RG.same {H H':Hp} (s:aV H H') {a:Addr} {kvs:List (PyData×PyData)} {vs:List V} (h:RG H a kvs vs):RG H' a kvs vs:=by
 rcases h with ⟨ks,e,h⟩ | ⟨ks,e,h⟩
 ·exact .inl ⟨ks,e,s _ _ h⟩
 ·exact .inr ⟨ks,e,s _ _ h⟩
mutual
theorem RZ.same {H H':Hp} (s:aV H H'):∀{d:PyData} {v:V},RZ H d v→RZ H' d v
 | .none,_,h=>h
 | .bool _,_,h=>h
 | .int _,_,h=>h
 | .str _,_,h=>h
 | .list ds,_,h=>by
  obtain ⟨a,vs,e,q,r⟩:=h
  exact ⟨a,vs,e,s _ _ q,dJ.same s r⟩
 | .tuple ds,_,h=>by
  obtain ⟨a,vs,e,q,r⟩:=h
  exact ⟨a,vs,e,s _ _ q,dJ.same s r⟩
 | .dict kvs,_,h=>by
  obtain ⟨a,vs,e,q,r⟩:=h
  exact ⟨a,vs,e,q.same s,oF.same s r⟩
theorem dJ.same {H H':Hp} (s:aV H H'):∀{ds:List PyData} {vs:List V},dJ H ds vs→dJ H' ds vs
 | [],_,h=>h
 | d::ds,vs,h=>by
  obtain ⟨v,r,e,q,t⟩:=h
  exact ⟨v,r,e,RZ.same s q,dJ.same s t⟩
theorem oF.same {H H':Hp} (s:aV H H'):∀{kvs:List (PyData×PyData)} {vs:List V},oF H kvs vs→oF H' kvs vs
 | [],_,h=>h
 | (k,d)::ds,vs,h=>by
  obtain ⟨v,r,e,q,t⟩:=h
  exact ⟨v,r,e,RZ.same s q,oF.same s t⟩
end
theorem bT {H:Hp}:∀{ds:List PyData} {vs:List V},dJ H ds vs→vs.length=ds.length
 | [],_,h=>by cases (show _=[] from h); rfl
 | e::ds,vs,h=>by
  obtain ⟨u,r,e1,q,s⟩:=h
  subst e1
  rw [List.length_cons,List.length_cons,bT s]
theorem tB {H:Hp}:∀{ds:List (PyData×PyData)} {vs:List V},oF H ds vs→vs.length=ds.length
 | [],_,h=>by cases (show _=[] from h); rfl
 | e::ds,vs,h=>by
  obtain ⟨u,r,e1,q,s⟩:=h
  subst e1
  rw [List.length_cons,List.length_cons,tB s]
theorem nG {H:Hp}:∀{ds:List PyData} {vs:List V} {i:Nat} {d:PyData},dJ H ds vs→ds[i]?=some d→∃v,vs[i]?=some v∧RZ H d v
 | [],_,_,_,_,e=>by simp at e
 | x::ds,vs,i,d,h,e=>by
  obtain ⟨u,r,e1,q,s⟩:=h
  subst e1
  cases i with
  | zero=>cases e; exact ⟨u,rfl,q⟩
  | succ i=>
   obtain ⟨v,e2,h2⟩:=nG (i:=i) s (by simpa using e)
   exact ⟨v,by simpa using e2,h2⟩
theorem mK {H:Hp}:∀{ds es:List PyData} {vs ws:List V},dJ H ds vs→dJ H es ws→dJ H (ds++es) (vs++ws)
 | [],_,_,_,h,g=>by cases (show _=[] from h); exact g
 | d::ds,_,_,_,h,g=>by
  obtain ⟨u,r,e1,q,s⟩:=h
  subst e1
  exact ⟨u,_,rfl,q,mK s g⟩
theorem Aw {H:Hp}:∀{ds:List PyData} {vs:List V} (n:Nat),dJ H ds vs→dJ H (ds.take n) (vs.take n)
 | _,_,0,_=>by rw [List.take_zero,List.take_zero]; rfl
 | [],_,n + 1,h=>by cases (show _=[] from h); rfl
 | d::ds,_,n + 1,h=>by
  obtain ⟨u,r,e1,q,s⟩:=h
  subst e1
  exact ⟨u,_,rfl,q,Aw n s⟩
theorem Ax {H:Hp}:∀{ds:List PyData} {vs:List V} (n:Nat),dJ H ds vs→dJ H (ds.drop n) (vs.drop n)
 | _,_,0,h=>h
 | [],_,n + 1,h=>by cases (show _=[] from h); rfl
 | d::ds,_,n + 1,h=>by
  obtain ⟨u,r,e1,q,s⟩:=h
  subst e1
  exact Ax n s
theorem Gh {H:Hp} {d:PyData} {v:V} (hv:RZ H d v):∀{ds:List PyData} {vs:List V} (i:Nat),dJ H ds vs→dJ H (ds.set i d) (vs.set i v)
 | [],_,_,h=>by cases (show _=[] from h); rfl
 | x::ds,_,i,h=>by
  obtain ⟨u,r,e1,q,s⟩:=h
  subst e1
  cases i with
  | zero=>exact ⟨v,r,rfl,hv,s⟩
  | succ i=>exact ⟨u,_,rfl,q,Gh hv i s⟩
noncomputable def fW:PyData→Bool
 | .none=>true
 | .bool _=>true
 | .int _=>true
 | .str _=>true
 | _=>false
noncomputable def toV:PyData→V
 | .none=>.non
 | .bool b=>.bl b
 | .int i=>.int i
 | .str x=>.str x
 | _=>.non
theorem Px {H:Hp} {d:PyData} {v:V} (f:fW d=true) (h:RZ H d v):v=toV d:=by
 cases d <;> first | exact h | cases f
theorem Py {H:Hp} {d:PyData} (f:fW d=true):RZ H d (toV d):=by
 cases d <;> first | rfl | cases f
theorem uB {H:Hp}:∀{ds:List PyData} {vs:List V},ds.all fW=true→dJ H ds vs→vs=ds.map toV
 | [],_,_,h=>h
 | d::ds,vs,f,h=>by
  obtain ⟨u,r,e1,q,s⟩:=h
  rw [List.all_cons,Bool.and_eq_true] at f
  rw [e1,Px f.1 q,uB f.2 s]
  rfl
theorem Ay {H:Hp} (ns:List Int):dJ H (ns.map PyData.int) (ns.map V.int):=by
 induction ns with
 | nil=>rfl
 | cons n r ih=>exact ⟨_,_,rfl,rfl,ih⟩
theorem uC {H:Hp} (ns:List Str):dJ H (ns.map PyData.str) (ns.map V.str):=by
 induction ns with
 | nil=>rfl
 | cons n r ih=>exact ⟨_,_,rfl,rfl,ih⟩
mutual
noncomputable def yN:PyData→Bool
 | .list _=>false
 | .tuple ds=>iC ds
 | .dict _=>false
 | _=>true
noncomputable def iC:List PyData→Bool
 | []=>true
 | d::r=>yN d&&iC r
end
mutual
theorem RZ.yN {H H':Hp} (t:∀a vs,H a=some (.tup vs)→H' a=some (.tup vs)):∀{d:PyData} {v:V},yN d=true→RZ H d v→RZ H' d v
 | .none,_,_,h=>h
 | .bool _,_,_,h=>h
 | .int _,_,_,h=>h
 | .str _,_,_,h=>h
 | .list ds,_,n,h=>nomatch n
 | .tuple ds,_,n,h=>by
  obtain ⟨a,vs,e,q,r⟩:=h
  exact ⟨a,vs,e,t _ _ q,dJ.yN t n r⟩
 | .dict _,_,n,_=>nomatch n
theorem dJ.yN {H H':Hp} (t:∀a vs,H a=some (.tup vs)→H' a=some (.tup vs)):∀{ds:List PyData} {vs:List V},iC ds=true→dJ H ds vs→dJ H' ds vs
 | [],_,_,h=>h
 | d::ds,vs,n,h=>by
  obtain ⟨v,r,e,q,w⟩:=h
  have n':L2.yN d=true∧iC ds=true:=by rw [iC,Bool.and_eq_true] at n; exact n
  exact ⟨v,r,e,RZ.yN t n'.1 q,dJ.yN t n'.2 w⟩
end
mutual
noncomputable def IW:PyData→Bool
 | .list ds=>gQ ds
 | .tuple ds=>gQ ds
 | .dict _=>false
 | _=>true
noncomputable def gQ:List PyData→Bool
 | []=>true
 | d::r=>IW d&&gQ r
end
mutual
theorem RZ.rx {H:Hp}:∀{d:PyData} {v:V},IW d=true→RZ H d v→RX H d v
 | .none,_,_,h=>h
 | .bool _,_,_,h=>h
 | .int _,_,_,h=>h
 | .str _,_,_,h=>h
 | .list ds,_,n,h=>by
  obtain ⟨a,vs,e,q,r⟩:=h
  exact ⟨a,vs,e,q,dJ.rx n r⟩
 | .tuple ds,_,n,h=>by
  obtain ⟨a,vs,e,q,r⟩:=h
  exact ⟨a,vs,e,q,dJ.rx n r⟩
 | .dict _,_,n,_=>nomatch n
theorem dJ.rx {H:Hp}:∀{ds:List PyData} {vs:List V},gQ ds=true→dJ H ds vs→Ag H ds vs
 | [],_,_,h=>h
 | d::ds,vs,n,h=>by
  obtain ⟨v,r,e,q,t⟩:=h
  have n':IW d=true∧gQ ds=true:=by rw [gQ,Bool.and_eq_true] at n; exact n
  exact ⟨v,r,e,RZ.rx n'.1 q,dJ.rx n'.2 t⟩
end
inductive Vl where
 | im (d:PyData)
 | ow (d:PyData)
 | ce (n:Nat)
 | sc (ns:List Int)
noncomputable abbrev En:=List (Option Vl)
noncomputable abbrev Ce:=List (List Int)
noncomputable def own1:Option Vl→Option V→List Addr
 | some (.ow _),some (.ref a)=>[a]
 | _,_=>[]
noncomputable def aY:En→St→List Addr
 | x::e,v::s=>own1 x v++aY e s
 | _,_=>[]
theorem cu {a:Addr}:∀{env:En} {σ:St},a∈aY env σ ↔ ∃(i:Nat) (d:PyData),env[i]?=some (some (Vl.ow d))∧σ[i]?=some (some (V.ref a))
 | [],σ=>by
  constructor
  ·intro h; simp [aY] at h
  ·rintro ⟨i,d,e,_⟩; simp at e
 | x::e,[]=>by
  constructor
  ·intro h; simp [aY] at h
  ·rintro ⟨i,d,_,e⟩; simp at e
 | x::e,v::s=>by
  rw [aY,List.mem_append,cu (env:=e) (σ:=s)]
  constructor
  ·rintro (h | ⟨i,d,h1,h2⟩)
   ·unfold own1 at h
    split at h
    ·rw [List.mem_singleton] at h
     subst h
     exact ⟨0,_,rfl,rfl⟩
    ·simp at h
   ·exact ⟨i + 1,d,by simpa using h1,by simpa using h2⟩
  ·rintro ⟨i,d,h1,h2⟩
   cases i with
   | zero=>
    simp at h1 h2
    subst h1 h2
    exact .inl (List.mem_singleton.mpr rfl)
   | succ i=>exact .inr ⟨i,d,by simpa using h1,by simpa using h2⟩
theorem oY {a:Addr}:∀{env:En} {σ:St} {i j:Nat} {d e:PyData},(aY env σ).Nodup→env[i]?=some (some (Vl.ow d))→σ[i]?=some (some (V.ref a))→env[j]?=some (some (Vl.ow e))→σ[j]?=some (some (V.ref a))→i=j
 | [],_,i,_,_,_,_,h,_,_,_=>by simp at h
 | _::_,[],i,_,_,_,_,_,h,_,_=>by simp at h
 | x::en,v::s,i,j,d,e,nd,h1,h2,h3,h4=>by
  rw [aY,List.nodup_append] at nd
  cases i with
  | zero=>
   cases j with
   | zero=>rfl
   | succ j=>
    simp at h1 h2
    subst h1 h2
    have:a∈aY en s:=cu.mpr ⟨j,e,by simpa using h3,by simpa using h4⟩
    exact absurd rfl (nd.2.2 a (List.mem_singleton.mpr rfl) a this)
  | succ i=>
   cases j with
   | zero=>
    simp at h3 h4
    subst h3 h4
    have:a∈aY en s:=cu.mpr ⟨i,d,by simpa using h1,by simpa using h2⟩
    exact absurd rfl (nd.2.2 a (List.mem_singleton.mpr rfl) a this)
   | succ j=>rw [oY (i:=i) (j:=j) nd.2.1 (by simpa using h1) (by simpa using h2) (by simpa using h3) (by simpa using h4)]
noncomputable def Zd (x y:Option Vl):Prop:=y=x∨∃d,x=some (.ow d)∧y=some (.im d)
noncomputable def Fz:En→En→Prop
 | [],[]=>True
 | x::r,y::t=>Zd x y∧Fz r t
 | _,_=>False
theorem Fz.refl:∀e:En,Fz e e
 | []=>trivial
 | x::r=>⟨.inl rfl,Fz.refl r⟩
theorem Fz.trans:∀{a b c:En},Fz a b→Fz b c→Fz a c
 | [],[],[],_,_=>trivial
 | x::r,y::t,z::w,h,g=>by
  refine ⟨?_,Fz.trans h.2 g.2⟩
  rcases h.1 with e | ⟨d,e1,e2⟩
  ·rw [←e]; exact g.1
  ·rcases g.1 with e | ⟨d',e3,e4⟩
   ·exact .inr ⟨d,e1,e.trans e2⟩
   ·rw [e2] at e3; cases e3
 | [],[],_::_,_,g=>nomatch g
 | [],_::_,_,h,_=>nomatch h
 | _::_,[],_,h,_=>nomatch h
 | _::_,_::_,[],_,g=>nomatch g
theorem Fz.len:∀{a b:En},Fz a b→b.length=a.length
 | [],[],_=>rfl
 | _::_,_::_,h=>by rw [List.length_cons,List.length_cons,Fz.len h.2]
 | [],_::_,h=>nomatch h
 | _::_,[],h=>nomatch h
theorem Fz.at:∀{a b:En} {i:Nat} {y:Vl},Fz a b→b[i]?=some (some y)→a[i]?=some (some y)∨∃d,a[i]?=some (some (.ow d))∧y=.im d
 | [],[],i,y,_,e=>by simp at e
 | x::r,z::t,0,y,h,e=>by
  simp at e
  rcases h.1 with q | ⟨d,q1,q2⟩
  ·left; rw [←q,e]; rfl
  ·right; rw [e] at q2; cases q2; exact ⟨d,by rw [q1]; rfl,rfl⟩
 | x::r,z::t,i + 1,y,h,e=>by
  simpa using Fz.at (i:=i) h.2 (by simpa using e)
 | [],_::_,_,_,h,_=>nomatch h
 | _::_,[],_,_,h,_=>nomatch h
theorem Pz {x y:Option Vl} (h:Zd x y) (v:Option V):List.Sublist (own1 y v) (own1 x v):=by
 rcases h with e | ⟨d,e1,e2⟩
 ·rw [e]; exact List.Sublist.refl _
 ·rw [e2]; exact List.nil_sublist _
theorem Fz.own:∀{a b:En} {σ:St},Fz a b→List.Sublist (aY b σ) (aY a σ)
 | [],[],σ,_=>by cases σ <;> exact List.Sublist.refl _
 | x::r,y::t,[],h=>List.Sublist.refl _
 | x::r,y::t,v::s,h=>by
  rw [aY,aY]
  exact List.Sublist.append (Pz h.1 v) (Fz.own h.2)
 | [],_::_,_,h=>nomatch h
 | _::_,[],_,h=>nomatch h
noncomputable abbrev aL (Z Θ:List Addr) (env:En) (σ:St):List Addr:=Z++(Θ++aY env σ)
noncomputable def lz (E H:Hp) (a:Addr):PyData→Prop
 | .list ds=>∃vs,H a=some (.lst vs)∧dJ E ds vs
 | .dict kvs=>∃vs,RG H a kvs vs∧oF E kvs vs
 | _=>False
theorem lz.same {E E' H H':Hp} {a:Addr} {d:PyData} (s:aV E E') (h:∀o,H a=some o→H' a=some o) (r:lz E H a d):lz E' H' a d:=by
 cases d <;> first | exact r.elim | skip
 ·obtain ⟨vs,e,q⟩:=r
  exact ⟨vs,h _ e,q.same s⟩
 ·obtain ⟨vs,e,q⟩:=r
  refine ⟨vs,?_,q.same s⟩
  rcases e with ⟨ks,k,e⟩ | ⟨ks,k,e⟩
  ·exact .inl ⟨ks,k,h _ e⟩
  ·exact .inr ⟨ks,k,h _ e⟩
theorem lz.rz {E H:Hp} {a:Addr} {d:PyData} (h:∀o,H a=some o→E a=some o) (r:lz E H a d):RZ E d (.ref a):=by
 cases d <;> first | exact r.elim | skip
 ·obtain ⟨vs,e,q⟩:=r
  exact ⟨a,vs,rfl,h _ e,q⟩
 ·obtain ⟨vs,e,q⟩:=r
  refine ⟨a,vs,rfl,?_,q⟩
  rcases e with ⟨ks,k,e⟩ | ⟨ks,k,e⟩
  ·exact .inl ⟨ks,k,h _ e⟩
  ·exact .inr ⟨ks,k,h _ e⟩
structure bK (Θ:List Addr) (H H':Hp):Prop where
 keep:∀a o,H a=some o→a∉Θ→H' a=some o
 dom:∀a,H a≠none→H' a≠none
theorem bK.refl (Θ:List Addr) (H:Hp):bK Θ H H:=⟨fun _ _ e _=>e,fun _ e=>e⟩
theorem bK.trans {Θ:List Addr} {H H1 H2:Hp} (a:bK Θ H H1) (b:bK Θ H1 H2):bK Θ H H2:=⟨fun c o e n=>b.keep _ _ (a.keep _ _ e n) n,fun c e=>b.dom _ (a.dom _ e)⟩
theorem bK.none {Θ:List Addr} {H H':Hp} (k:bK Θ H H') {a:Addr} (h:H' a=none):H a=none:=by
 cases e:H a with
 | none=>rfl
 | some o=>exact absurd h (k.dom a (by rw [e]; exact Option.some_ne_none _))
theorem bK.of {Θ:List Addr} {H H':Hp} (s:aV H H'):bK Θ H H':=⟨fun a o e _=>s _ _ e,fun a h=>by
 cases e:H a with
 | none=>exact absurd e h
 | some o=>rw [s _ _ e]; exact Option.some_ne_none _⟩
theorem bK.upd {Θ:List Addr} {H:Hp} {p:Addr} {o:HO} (h:H p=Option.none):bK Θ H (L2.upd H p o):=bK.of (aV.upd h)
theorem dZ {Z Z' Θ:List Addr} {H H':Hp} (k:bK Θ H H') (ht:∀a∈Θ,a∈Z) (hz:∀a,a∈Z'→a∈Z∨H a=none):aV (er Z H) (er Z' H'):=fun b o h=>by
 unfold er at h ⊢
 split at h
 ·cases h
 ·rename_i n
  rw [if_neg,k.keep _ _ h (fun m=>n (ht b m))]
  intro m
  rcases hz b m with q | q
  ·exact n q
  ·rw [q] at h; cases h
noncomputable def I9 (K:PySem.W.Frag) (E H:Hp) (Θ:List Addr):Vl→V→Prop
 | .im d,v=>RZ E d v
 | .ow d,v=>∃a,v=.ref a∧lz E H a d
 | .ce n,v=>∃a,v=.ref a∧Θ[n]?=some a
 | .sc ns,v=>∃a,v=.ref a∧cJ K E a (ns.map V.int)
noncomputable def NT (o:Option HO):Prop:=∃u,o=some u∧∀vs,u≠.tup vs
theorem NT.ne {o:Option HO} (h:NT o):o≠none:=by
 obtain ⟨u,rfl,_⟩:=h
 exact Option.some_ne_none _
theorem lz.nt {E H:Hp} {a:Addr} {d:PyData} (r:lz E H a d):NT (H a):=by
 cases d <;> first | exact r.elim | skip
 ·obtain ⟨vs,e,q⟩:=r
  exact ⟨_,e,fun _ z=>nomatch z⟩
 ·obtain ⟨vs,e,q⟩:=r
  rcases e with ⟨ks,k,e⟩ | ⟨ks,k,e⟩
  ·exact ⟨_,e,fun _ z=>nomatch z⟩
  ·exact ⟨_,e,fun _ z=>nomatch z⟩
theorem lz.there {E H:Hp} {a:Addr} {d:PyData} (r:lz E H a d):H a≠none:=r.nt.ne
structure dW (Θ:List Addr) (C:Ce) (H:Hp):Prop where
 len:C.length=Θ.length
 at_:∀(n:Nat) (a:Addr) (ns:List Int),Θ[n]?=some a→C[n]?=some ns→H a=some (.lst (ns.map V.int))
structure Sm (K:PySem.W.Frag) (Z Θ:List Addr) (env:En) (C:Ce) (σ:St) (H:Hp):Prop where
 len:σ.length=env.length
 nd:(aL Z Θ env σ).Nodup
 dom:∀a∈Z,NT (H a)
 slot:∀(i:Nat) (x:Vl),env[i]?=some (some x)→∃v,σ[i]?=some (some v)∧I9 K (er (aL Z Θ env σ) H) H Θ x v
 cell:dW Θ C H
theorem dW.dom {Θ:List Addr} {C:Ce} {H:Hp} (c:dW Θ C H):∀a∈Θ,NT (H a):=fun a m=>by
 obtain ⟨n,hn,e⟩:=List.getElem_of_mem m
 have e1:Θ[n]?=some a:=by rw [List.getElem?_eq_getElem hn,e]
 have h2:n < C.length:=by rw [c.len]; exact hn
 exact ⟨_,c.at_ n a C[n] e1 (List.getElem?_eq_getElem h2),fun _ z=>nomatch z⟩
section
variable {K:PySem.W.Frag} {Z Θ:List Addr} {env env':En} {C C':Ce} {σ:St} {H H':Hp}
theorem Sm.XR (S:Sm K Z Θ env C σ H):∀a∈aL Z Θ env σ,NT (H a):=fun a m=>by
 rcases List.mem_append.mp m with m | m
 ·exact S.dom a m
 ·rcases List.mem_append.mp m with m | m
  ·exact S.cell.dom a m
  ·obtain ⟨i,d,e1,e2⟩:=cu.mp m
   obtain ⟨v,e3,b,e4,r⟩:=S.slot i _ e1
   rw [e2] at e3
   cases e3
   cases e4
   exact r.nt
theorem Sm.yO (S:Sm K Z Θ env C σ H):∀a∈aL Z Θ env σ,H a≠none:=fun a m=>(S.XR a m).ne
theorem Sm.Gi (S:Sm K Z Θ env C σ H):∀a∈Θ,a∈aL Z Θ env σ:=fun a m=>List.mem_append_right _ (List.mem_append_left _ m)
theorem I9.same {E E':Hp} {x:Vl} {v:V} (s:aV E E') (h:∀d a,x=.ow d→v=.ref a→∀o,H a=some o→H' a=some o) (r:I9 K E H Θ x v):I9 K E' H' Θ x v:=by
 cases x with
 | im d=>exact RZ.same s r
 | ow d=>obtain ⟨a,e,q⟩:=r; exact ⟨a,e,q.same s (h d a rfl e)⟩
 | ce n=>exact r
 | sc ns=>obtain ⟨a,e,q⟩:=r; exact ⟨a,e,s.seq q⟩
theorem Sm.dX (S:Sm K Z Θ env C σ H) {a:Addr} (m:a∈aY env σ):a∉Z∧a∉Θ:=by
 have h:=S.nd
 rw [List.nodup_append] at h
 obtain ⟨_,h2,h3⟩:=h
 rw [List.nodup_append] at h2
 refine ⟨fun z=>h3 a z a (List.mem_append_right _ m) rfl,fun z=>h2.2.2 a z a m rfl⟩
theorem Sm.go (S:Sm K Z Θ env C σ H) (k:bK Θ H H') (c:dW Θ C' H'):Sm K Z Θ env C' σ H' where
 len:=S.len
 nd:=S.nd
 dom:=fun a m=>by
  obtain ⟨u,e,n⟩:=S.dom a m
  have h:=S.nd
  rw [List.nodup_append] at h
  exact ⟨u,k.keep _ _ e fun z=>h.2.2 a m a (List.mem_append_left _ z) rfl,n⟩
 slot:=fun i x e=>by
  obtain ⟨v,e1,r⟩:=S.slot i x e
  refine ⟨v,e1,r.same (dZ k S.Gi fun a m=>.inl m) fun d a ex ev o ho=>k.keep _ _ ho ?_⟩
  subst ex ev
  exact (S.dX (cu.mpr ⟨i,d,e,e1⟩)).2
 cell:=c
theorem Sm.fz (S:Sm K Z Θ env C σ H) (f:Fz env env'):Sm K Z Θ env' C σ H:=by
 have sub:List.Sublist (aL Z Θ env' σ) (aL Z Θ env σ):=List.Sublist.append (List.Sublist.refl _) (List.Sublist.append (List.Sublist.refl _) f.own)
 have sm:aV (er (aL Z Θ env σ) H) (er (aL Z Θ env' σ) H):=dZ (bK.refl [] H) (fun _ m=>nomatch m) fun a m=>.inl (sub.subset m)
 refine ⟨by rw [f.len]; exact S.len,sub.nodup S.nd,S.dom,fun i x e0=>?_,S.cell⟩
 rcases f.at e0 with e | ⟨d,e,ex⟩
 ·obtain ⟨v,e1,r⟩:=S.slot i x e
  exact ⟨v,e1,r.same sm fun _ _ _ _ _ ho=>ho⟩
 ·subst ex
  obtain ⟨v,e1,a,ev,r⟩:=S.slot i _ e
  subst ev
  refine ⟨_,e1,lz.rz (H:=H) (fun o ho=>?_) (r.same sm fun _ ho=>ho)⟩
  unfold er
  rw [if_neg]
  ·exact ho
  ·intro m
   have hm:a∈aY env σ:=cu.mpr ⟨i,d,e,e1⟩
   rcases List.mem_append.mp m with m | m
   ·exact (S.dX hm).1 m
   ·rcases List.mem_append.mp m with m | m
    ·exact (S.dX hm).2 m
    ·obtain ⟨j,d',e3,e4⟩:=cu.mp m
     have nd:=S.nd
     rw [List.nodup_append] at nd
     have nd2:=nd.2.1
     rw [List.nodup_append] at nd2
     rcases f.at e3 with e5 | ⟨_,_,e5⟩
     ·have:=oY nd2.2.1 e e1 e5 e4
      subst this
      rw [e0] at e3
      cases e3
     ·cases e5
end
end L2
namespace L2
open PySem PySem.Spec PyProof.Rows PySem.W
section
variable {K:PySem.W.Frag} {Z Θ:List Addr} {env env':En} {C C':Ce} {σ:St} {H H':Hp} {a p:Addr}
theorem Sm.pop (S:Sm K (a::Z) Θ env C σ H):Sm K Z Θ env C σ H:=by
 have sm:aV (er (aL (a::Z) Θ env σ) H) (er (aL Z Θ env σ) H):=dZ (bK.refl [] H) (fun _ m=>nomatch m) fun b m=>.inl (List.mem_cons_of_mem _ m)
 exact ⟨S.len,(List.nodup_cons.mp S.nd).2,fun b m=>S.dom b (List.mem_cons_of_mem _ m),fun i x e=>let ⟨v,e1,r⟩:=S.slot i x e; ⟨v,e1,r.same sm fun _ _ _ _ _ h=>h⟩,S.cell⟩
theorem Sm.push (S:Sm K Z Θ env C σ H) (hp:H p=none) (o:HO) (ho:∀vs,o≠.tup vs):Sm K (p::Z) Θ env C σ (upd H p o):=by
 have k:bK Θ H (upd H p o):=bK.upd hp
 have sm:aV (er (aL Z Θ env σ) H) (er (aL (p::Z) Θ env σ) (upd H p o)):=dZ k S.Gi fun b m=>by
  rcases List.mem_cons.mp m with rfl | m
  ·exact .inr hp
  ·exact .inl m
 have c:dW Θ C (upd H p o):=⟨S.cell.len,fun n b ns e1 e2=>by
  have:=S.cell.at_ n b ns e1 e2
  rw [aO (bC this hp)]
  exact this⟩
 refine ⟨S.len,List.nodup_cons.mpr ⟨fun m=>S.yO p m hp,S.nd⟩,fun b m=>?_,fun i x e=>?_,c⟩
 ·rcases List.mem_cons.mp m with rfl | m
  ·exact ⟨o,aK,ho⟩
  ·obtain ⟨u,e,n⟩:=S.dom b m
   exact ⟨u,by rw [aO (bC e hp)]; exact e,n⟩
 ·obtain ⟨v,e1,r⟩:=S.slot i x e
  refine ⟨v,e1,r.same sm fun d b ex ev o' ho=>?_⟩
  rw [aO (bC ho hp)]
  exact ho
theorem Sm.uy (S:Sm K Z Θ env C σ H) (s:aV H H'):Sm K Z Θ env C σ H':=
 S.go (bK.of s) ⟨S.cell.len,fun n b ns e1 e2=>s _ _ (S.cell.at_ n b ns e1 e2)⟩
noncomputable def Res (K:PySem.W.Frag) (Z Θ:List Addr) (env:En) (C:Ce) (σ:St) (H H':Hp):Vl→V→Prop
 | .im d,v=>Sm K Z Θ env C σ H'∧RZ (er (aL Z Θ env σ) H') d v
 | .ow d,v=>∃a,v=.ref a∧H a=none∧Sm K (a::Z) Θ env C σ H'∧lz (er (aL (a::Z) Θ env σ) H') H' a d
 | .ce n,v=>Sm K Z Θ env C σ H'∧∃a,v=.ref a∧Θ[n]?=some a
 | .sc ns,v=>Sm K Z Θ env C σ H'∧∃a,v=.ref a∧cJ K (er (aL Z Θ env σ) H') a (ns.map V.int)
noncomputable def Ur (E T:Hp):PyData→V→Prop
 | .list ds,v=>∃a vs,v=.ref a∧T a=some (.lst vs)∧dJ E ds vs
 | .dict kvs,v=>∃a vs,v=.ref a∧RG T a kvs vs∧oF E kvs vs
 | d,v=>RZ E d v
theorem Ur.same {E E' T T':Hp} {d:PyData} {v:V} (s:aV E E') (t:aV T T') (h:Ur E T d v):Ur E' T' d v:=by
 cases d <;> first | exact RZ.same s h | skip
 ·obtain ⟨a,vs,e,q,r⟩:=h
  exact ⟨a,vs,e,t _ _ q,r.same s⟩
 ·obtain ⟨a,vs,e,q,r⟩:=h
  exact ⟨a,vs,e,q.same t,r.same s⟩
theorem RZ.bor {E T:Hp} {d:PyData} {v:V} (t:aV E T) (h:RZ E d v):Ur E T d v:=by
 cases d <;> first | exact h | skip
 ·obtain ⟨a,vs,e,q,r⟩:=h
  exact ⟨a,vs,e,t _ _ q,r⟩
 ·obtain ⟨a,vs,e,q,r⟩:=h
  exact ⟨a,vs,e,q.same t,r⟩
noncomputable abbrev dG (Z Θ:List Addr) (env:En) (σ:St) (H:Hp) (d:PyData) (v:V):Prop:=Ur (er (aL Z Θ env σ) H) (er Θ H) d v
theorem jf {Z Z':List Addr} {H:Hp} (h:∀a,a∈Z'→a∈Z):aV (er Z H) (er Z' H):=dZ (bK.refl [] H) (fun _ m=>nomatch m) fun b m=>.inl (h b m)
theorem RJ:aV (er (aL Z Θ env σ) H) (er Θ H):=jf fun a m=>List.mem_append_right _ (List.mem_append_left _ m)
theorem Fz.sub (f:Fz env env'):∀a,a∈aL Z Θ env' σ→a∈aL Z Θ env σ:=fun a m=>
 (List.Sublist.append (List.Sublist.refl _) (List.Sublist.append (List.Sublist.refl _) f.own)).subset m
theorem K9 (S:Sm K Z Θ env C σ H) (k:bK Θ H H') (f:Fz env env'):aV (er (aL Z Θ env σ) H) (er (aL Z Θ env' σ) H'):=dZ k S.Gi fun a m=>.inl (f.sub a m)
theorem yP (k:bK Θ H H'):aV (er Θ H) (er Θ H'):=dZ k (fun _ m=>m) fun a m=>.inl m
theorem dG.go {d:PyData} {v:V} (h:dG Z Θ env σ H d v) (S:Sm K Z Θ env C σ H) (k:bK Θ H H') (f:Fz env env'):dG Z Θ env' σ H' d v:=Ur.same (K9 S k f) (yP k) h
noncomputable def dat:Vl→Option PyData
 | .im d=>some d
 | .ow d=>some d
 | .ce _=>none
 | .sc _=>none
theorem Res.sm {r:Vl} {v:V} (h:Res K Z Θ env C σ H H' r v):Sm K Z Θ env C σ H':=by
 cases r with
 | im d=>exact h.1
 | ow d=>obtain ⟨a,_,_,S,_⟩:=h; exact S.pop
 | ce n=>exact h.1
 | sc ns=>exact h.1
theorem Res.bor {r:Vl} {v:V} {d:PyData} (h:Res K Z Θ env C σ H H' r v) (e:dat r=some d):dG Z Θ env σ H' d v:=by
 cases r with
 | im d'=>cases e; exact RZ.bor RJ h.2
 | ow d'=>
  cases e
  obtain ⟨a,rfl,_,S,r⟩:=h
  have na:a∉Θ:=fun m=>(List.nodup_cons.mp S.nd).1 (List.mem_append_right _ (List.mem_append_left _ m))
  have sm:aV (er (aL (a::Z) Θ env σ) H') (er (aL Z Θ env σ) H'):=jf fun b m=>List.mem_cons_of_mem _ m
  have ha:∀o,H' a=some o→er Θ H' a=some o:=fun o ho=>by unfold er; rw [if_neg na]; exact ho
  cases d <;> first | exact r.elim | skip
  ·obtain ⟨vs,e,q⟩:=r
   exact ⟨a,vs,rfl,ha _ e,q.same sm⟩
  ·obtain ⟨vs,e,q⟩:=r
   refine ⟨a,vs,rfl,?_,q.same sm⟩
   rcases e with ⟨ks,k,e⟩ | ⟨ks,k,e⟩
   ·exact .inl ⟨ks,k,ha _ e⟩
   ·exact .inr ⟨ks,k,ha _ e⟩
 | ce n=>cases e
 | sc ns=>cases e
noncomputable def still:Vl→Vl
 | .ow d=>.im d
 | r=>r
theorem Res.still {r:Vl} {v:V} (h:Res K Z Θ env C σ H H' r v):Res K Z Θ env C σ H H' (still r) v:=by
 cases r with
 | ow d=>
  obtain ⟨a,rfl,hn,S,r⟩:=h
  refine ⟨S.pop,lz.rz (H:=H') (fun o ho=>?_) (r.same (jf fun b m=>List.mem_cons_of_mem _ m) fun _ h=>h)⟩
  unfold er
  rw [if_neg (show ¬a∈aL Z Θ env σ from (List.nodup_cons.mp S.nd).1)]
  exact ho
 | im d=>exact h
 | ce n=>exact h
 | sc ns=>exact h
theorem Res.from {H0:Hp} {r:Vl} {v:V} (h:Res K Z Θ env C σ H H' r v) (k:bK Θ H0 H):Res K Z Θ env C σ H0 H' r v:=by
 cases r with
 | ow d=>
  obtain ⟨a,e,hn,S,r⟩:=h
  exact ⟨a,e,k.none hn,S,r⟩
 | im d=>exact h
 | ce n=>exact h
 | sc ns=>exact h
theorem uD (S:Sm K Z Θ env C σ H) {a:Addr} {vs:List V} (h:H a=some (.tup vs)):er (aL Z Θ env σ) H a=some (.tup vs):=by
 unfold er
 rw [if_neg]
 ·exact h
 ·intro m
  obtain ⟨u,e,n⟩:=S.XR a m
  rw [h] at e
  exact n vs (Option.some.inj e).symm
noncomputable def rst (r:Vl) (env env':En):En:=match r with
 | .im d=>if yN d then env else env'
 | _=>env'
theorem Res.rst {r:Vl} {v:V} (S:Sm K Z Θ env C σ H) (k:bK Θ H H') (h:Res K Z Θ env' C' σ H H' r v):Res K Z Θ (rst r env env') C' σ H H' r v:=by
 cases r with
 | im d=>
  by_cases f:L2.yN d=true
  ·have:L2.rst (.im d) env env'=env:=if_pos f
   rw [this]
   have S':=S.go k h.1.cell
   exact ⟨S',h.2.yN (fun a vs e=>uD S' (bL e)) f⟩
  ·have:L2.rst (.im d) env env'=env':=if_neg f
   rw [this]
   exact h
 | ow d=>exact h
 | ce n=>exact h
 | sc ns=>exact h
theorem Fz.rst (r:Vl) (f:Fz env env'):Fz env (rst r env env'):=by
 cases r with
 | im d=>
  show Fz env (if L2.yN d then env else env')
  split
  ·exact Fz.refl _
  ·exact f
 | ow d=>exact f
 | ce n=>exact f
 | sc ns=>exact f
theorem bh {d:PyData} (S:Sm K Z Θ env C σ H) (f:fW d=true) {v:V} (hv:v=toV d):Res K Z Θ env C σ H H (.im d) v:=⟨S,by rw [hv]; exact Py f⟩
theorem dO {ds:List PyData} {vs:List V} (S:Sm K Z Θ env C σ H) (r:dJ (er (aL Z Θ env σ) H) ds vs) (hp:H p=none):Res K Z Θ env C σ H (upd H p (.lst vs)) (.ow (.list ds)) (.ref p):=by
 refine ⟨p,rfl,hp,S.push hp _ (fun _ z=>nomatch z),vs,aK,r.same (dZ (bK.upd (Θ:=Θ) hp) S.Gi fun b m=>?_)⟩
 rcases List.mem_cons.mp m with rfl | m
 ·exact .inr hp
 ·exact .inl m
theorem PJ {kvs:List (PyData×PyData)} {vs:List V} {o:HO} (S:Sm K Z Θ env C σ H) (ho:∀vs,o≠.tup vs) (d:RG (upd H p o) p kvs vs) (r:oF (er (aL Z Θ env σ) H) kvs vs) (hp:H p=none):Res K Z Θ env C σ H (upd H p o) (.ow (.dict kvs)) (.ref p):=by
 refine ⟨p,rfl,hp,S.push hp _ ho,vs,d,r.same (dZ (bK.upd (Θ:=Θ) hp) S.Gi fun b m=>?_)⟩
 rcases List.mem_cons.mp m with rfl | m
 ·exact .inr hp
 ·exact .inl m
theorem tD {ds:List PyData} {vs:List V} (S:Sm K Z Θ env C σ H) (r:dJ (er (aL Z Θ env σ) H) ds vs) (hp:H p=none):Res K Z Θ env C σ H (upd H p (.tup vs)) (.im (.tuple ds)) (.ref p):=by
 have S':=S.uy (aV.upd (o:=.tup vs) hp)
 refine ⟨S',p,vs,rfl,?_,r.same (dZ (bK.upd (Θ:=Θ) hp) S.Gi fun b m=>.inl m)⟩
 unfold er
 rw [if_neg (fun m=>S.yO p m hp),aK]
end
noncomputable abbrev FE:=En→Ce→Option (Vl×En×Ce)
noncomputable abbrev FB:=En→Ce→Option (PyData×En×Ce)
noncomputable abbrev FT:=En→Ce→Option (Bool×Ce)
noncomputable abbrev NQ:=En→Ce→Option (List PyData×En×Ce)
noncomputable abbrev FA:=En→Ce→Option (List Vl×En×Ce)
noncomputable def tE (K:PySem.W.Frag) (f:FE):TE:=fun σ H Q=>∃Z Θ env C r env' C',Sm K Z Θ env C σ H∧f env C=some (r,env',C')∧
 ∀v H',bK Θ H H'→Fz env env'→Res K Z Θ env' C' σ H H' r v→Q v H'
noncomputable def jD (K:PySem.W.Frag) (f:FB):TE:=fun σ H Q=>∃Z Θ env C d env' C',Sm K Z Θ env C σ H∧f env C=some (d,env',C')∧
 ∀v H',bK Θ H H'→Fz env env'→Sm K Z Θ env' C' σ H'→dG Z Θ env' σ H' d v→Q v H'
noncomputable def kh (K:PySem.W.Frag) (f:FT):TT:=fun σ H Q=>∃Z Θ env C b C',Sm K Z Θ env C σ H∧f env C=some (b,C')∧
 ∀H',bK Θ H H'→Sm K Z Θ env C' σ H'→Q b H'
inductive Dw (E T:Hp):List PyData→List V→Prop
 | nil:Dw E T [] []
 | cons {d:PyData} {v:V} {ds:List PyData} {vs:List V}:Ur E T d v→Dw E T ds vs→Dw E T (d::ds) (v::vs)
noncomputable abbrev Gj (Z Θ:List Addr) (env:En) (σ:St) (H:Hp) (ds:List PyData) (vs:List V):Prop:=Dw (er (aL Z Θ env σ) H) (er Θ H) ds vs
noncomputable def RK (K:PySem.W.Frag) (f:NQ):TA:=fun σ H Q=>∃Z Θ env C ds env' C',Sm K Z Θ env C σ H∧f env C=some (ds,env',C')∧
 ∀vs H',bK Θ H H'→Fz env env'→Sm K Z Θ env' C' σ H'→Gj Z Θ env' σ H' ds vs→Q vs H'
theorem PE.weak {X:Cx} {e:Expr} {t t':TE} (h:PE X e t) (w:∀σ H Q,t' σ H Q→t σ H Q):PE X e t':=fun pins s σ H Q I q=>h pins s σ H Q I (w σ H Q q)
theorem PT.weak {X:Cx} {e:Expr} {t t':TT} (h:PT X e t) (w:∀σ H Q,t' σ H Q→t σ H Q):PT X e t':=fun pins s σ H Q I q=>h pins s σ H Q I (w σ H Q q)
theorem PA.weak {X:Cx} {e:List Expr} {t t':TA} (h:PA X e t) (w:∀σ H Q,t' σ H Q→t σ H Q):PA X e t':=fun p pins s σ H Q I q=>h p pins s σ H Q I (w σ H Q q)
theorem PS.weak {X:Cx} {e:Stmt} {t t':TS} (h:PS X e t) (w:∀D σ H,t' D σ H→t D σ H):PS X e t':=fun pins s σ H D I q=>h pins s σ H D I (w D σ H q)
theorem sJ.weak {X:Cx} {e:List Stmt} {t t':TS} (h:sJ X e t) (w:∀D σ H,t' D σ H→t D σ H):sJ X e t':=fun pins s σ H D I q=>h pins s σ H D I (w D σ H q)
theorem PW.weak {X:Cx} {e:Expr} {t t':TT} (h:PW X e t) (w:∀σ H Q,t' σ H Q→t σ H Q):PW X e t':=fun wh pins s σ H Q I q=>h wh pins s σ H Q I (w σ H Q q)
noncomputable def fVar (i:Nat):FE:=fun env C=>match env[i]? with
 | some (some (.im d))=>some (.im d,env,C)
 | some (some (.ow d))=>some (.im d,env.set i (some (.im d)),C)
 | some (some (.ce n))=>some (.ce n,env,C)
 | some (some (.sc ns))=>some (.sc ns,env,C)
 | _=>none
noncomputable def aF (i:Nat):FB:=fun env C=>match env[i]? with
 | some (some x)=>(dat x).map fun d=>(d,env,C)
 | _=>none
noncomputable def fCst (d:PyData):FE:=fun env C=>some (.im d,env,C)
noncomputable def az (f:FE):FB:=fun env C=>match f env C with
 | some (r,e',C')=>(dat r).map fun d=>(d,e',C')
 | none=>none
theorem La:∀{env:En} {i:Nat} {d:PyData},env[i]?=some (some (.ow d))→Fz env (env.set i (some (.im d)))
 | [],i,d,e=>by simp at e
 | x::r,0,d,e=>by simp at e; subst e; exact ⟨.inr ⟨d,rfl,rfl⟩,Fz.refl r⟩
 | x::r,i + 1,d,e=>⟨.inl rfl,La (by simpa using e)⟩
section
variable {X:Cx} {e:Expr} {i:Nat}
theorem aB (h:PE X e (tW i)):PE X e (tE X.K (fVar i)):=h.weak fun σ H Q aR=>by
 obtain ⟨Z,Θ,env,C,r,env',C',S,hf,q⟩:=aR
 unfold fVar at hf
 split at hf
 all_goals first | (rename_i d hd; cases hf) | cases hf
 ·obtain ⟨v,e1,r⟩:=S.slot i _ hd
  exact ⟨v,e1,q v H (bK.refl _ _) (Fz.refl _) ⟨S,r⟩⟩
 ·have f:=La hd
  obtain ⟨v,e1,r⟩:=S.slot i _ hd
  have S':=S.fz f
  refine ⟨v,e1,q v H (bK.refl _ _) f ⟨S',?_⟩⟩
  have hi:i < env.length:=by
   have:=List.getElem?_eq_some_iff.mp hd
   exact this.1
  obtain ⟨v',e2,r'⟩:=S'.slot i (.im d) (by rw [List.getElem?_set,if_pos rfl,if_pos hi])
  rw [e1] at e2
  cases e2
  exact r'
 ·obtain ⟨v,e1,r⟩:=S.slot i _ hd
  exact ⟨v,e1,q v H (bK.refl _ _) (Fz.refl _) ⟨S,r⟩⟩
 ·obtain ⟨v,e1,r⟩:=S.slot i _ hd
  exact ⟨v,e1,q v H (bK.refl _ _) (Fz.refl _) ⟨S,r⟩⟩
theorem aq (h:PE X e (tW i)):PE X e (jD X.K (aF i)):=h.weak fun σ H Q aR=>by
 obtain ⟨Z,Θ,env,C,d,env',C',S,hf,q⟩:=aR
 unfold aF at hf
 split at hf
 ·rename_i x hx
  obtain ⟨v,e1,r⟩:=S.slot i _ hx
  have ex:dat x=some d∧env=env'∧C=C':=by
   cases hd:dat x with
   | none=>rw [hd] at hf; cases hf
   | some d'=>rw [hd] at hf; cases hf; exact ⟨rfl,rfl,rfl⟩
  obtain ⟨ex,rfl,rfl⟩:=ex
  refine ⟨v,e1,q v H (bK.refl _ _) (Fz.refl _) S ?_⟩
  cases x with
  | im d'=>cases ex; exact RZ.bor RJ r
  | ow d'=>
   cases ex
   obtain ⟨a,rfl,r⟩:=r
   have na:=(S.dX (cu.mpr ⟨i,_,hx,e1⟩)).2
   have ha:∀o,H a=some o→er Θ H a=some o:=fun o ho=>by unfold er; rw [if_neg na]; exact ho
   cases d <;> first | exact r.elim | skip
   ·obtain ⟨vs,e,q⟩:=r
    exact ⟨a,vs,rfl,ha _ e,q⟩
   ·obtain ⟨vs,e,q⟩:=r
    refine ⟨a,vs,rfl,?_,q⟩
    rcases e with ⟨ks,k,e⟩ | ⟨ks,k,e⟩
    ·exact .inl ⟨ks,k,ha _ e⟩
    ·exact .inr ⟨ks,k,ha _ e⟩
  | ce n=>cases ex
  | sc ns=>cases ex
 ·cases hf
theorem ao {d:PyData} {v:V} (h:PE X e (tC v)) (f:fW d=true:=by rfl) (hv:v=toV d:=by rfl):PE X e (tE X.K (fCst d)):=h.weak fun σ H Q aR=>by
 obtain ⟨Z,Θ,env,C,r,env',C',S,hf,q⟩:=aR
 cases hf
 exact q v H (bK.refl _ _) (Fz.refl _) (bh S f hv)
theorem aj {f:FE} (h:PE X e (tE X.K f)):PE X e (jD X.K (az f)):=h.weak fun σ H Q aR=>by
 obtain ⟨Z,Θ,env,C,d,env',C',S,hf,q⟩:=aR
 unfold az at hf
 split at hf
 ·rename_i r e' C1 hr
  cases hd:dat r with
  | none=>rw [hd] at hf; cases hf
  | some d'=>
   rw [hd] at hf
   cases hf
   exact ⟨Z,Θ,env,C,r,env',C',S,hr,fun v H' k f R=>q v H' k f R.sm (R.bor hd)⟩
 ·cases hf
end
end L2
namespace L2
open PySem PySem.Spec PyProof.Rows PySem.W
noncomputable def LIM:Nat:=1000000
theorem dg {n:Nat} (h:n≤LIM):n≤sizeLine:=by rw [sizeLine_eq]; unfold LIM at h; omega
noncomputable def mY (K:PySem.W.Frag) (r:R2) (op:PyData→PyData→Option Vl):Prop:=
 ∀(Z Θ:List Addr) (env:En) (C:Ce) (σ:St) (H:Hp) (x y:V) (dx dy:PyData) (res:Vl),Sm K Z Θ env C σ H→dG Z Θ env σ H dx x→dG Z Θ env σ H dy y→op dx dy=some res→
  ∀Q:VK,(∀v H',bK Θ H H'→Res K Z Θ env C σ H H' res v→Q v H')→r x y H Q
noncomputable def aG (op:PyData→PyData→Option Vl) (fa fb:FB):FE:=fun env C=>match fa env C with
 | some (x,e1,C1)=>match fb e1 C1 with
  | some (y,e2,C2)=>match op x y with
   | some r=>some (r,rst r env e2,C2)
   | none=>none
  | none=>none
 | none=>none
theorem oZ {K:PySem.W.Frag} {r:R2} {op:PyData→PyData→Option Vl} (L:mY K r op) {fa fb:FB}:∀σ H Q,tE K (aG op fa fb) σ H Q→V1 r (jD K fa) (jD K fb) σ H Q:=by
 rintro σ H Q ⟨Z,Θ,env,C,res,env',C',S,hf,q⟩
 unfold aG at hf
 split at hf
 ·rename_i x e1 C1 h1
  split at hf
  ·rename_i y e2 C2 h2
   split at hf
   ·rename_i r0 h3
    cases hf
    refine ⟨Z,Θ,env,C,x,e1,C1,S,h1,fun v H1 k1 f1 S1 b1=>⟨Z,Θ,e1,C1,y,e2,C',S1,h2,fun u H2 k2 f2 S2 b2=>?_⟩⟩
    refine L Z Θ e2 C' σ H2 v u x y res S2 (b1.go S1 k2 f2) b2 h3 Q fun z H3 k3 R=>?_
    have k:=(k1.trans k2).trans k3
    exact q z H3 k ((f1.trans f2).rst res) ((R.from (k1.trans k2)).rst S k)
   ·cases hf
  ·cases hf
 ·cases hf
section
variable {X:Cx} {a b:Expr} {fa fb:FB} {pos:Pos} {r:R2} {op:PyData→PyData→Option Vl}
theorem aP {o:Operator} (ho:gA X (binaryOp o) r) (L:mY X.K r op) (ha:PE X a (jD X.K fa)) (hb:PE X b (jD X.K fb)):PE X (.BinOp a o b pos) (tE X.K (aG op fa fb)):=(V2 ho ha hb).weak (oZ L)
theorem lA {o:CmpOp} (ho:gA X (compareOp o) r) (L:mY X.K r op) (ha:PE X a (jD X.K fa)) (hb:PE X b (jD X.K fb)) (hm:behindInMarks o b=false):PE X (.Compare a [o] [b] pos) (tE X.K (aG op fa fb)):=(Oo ho ha hb hm).weak (oZ L)
theorem bA (ho:JF X r) (L:mY X.K r op) (ha:PE X a (jD X.K fa)) (hb:PE X b (jD X.K fb)) (hs:sV b):PE X (.Subscript a b pos) (tE X.K (aG op fa fb)):=(Ka ho ha hb hs).weak (oZ L)
end
theorem mY.or {K:PySem.W.Frag} {r r':R2} {op op':PyData→PyData→Option Vl} (h:mY K r op) (h':mY K r' op'):mY K (fun x y H Q=>r x y H Q∨r' x y H Q) (fun x y=>match op x y with | some z=>some z | none=>op' x y):=by
 intro Z Θ env C σ H x y dx dy res S bx jg e Q q
 cases h1:op dx dy with
 | some z=>
  simp only [h1] at e
  cases e
  exact .inl (h Z Θ env C σ H x y dx dy _ S bx jg h1 Q q)
 | none=>
  simp only [h1] at e
  exact .inr (h' Z Θ env C σ H x y dx dy res S bx jg e Q q)
section
variable {K:PySem.W.Frag} {Z Θ:List Addr} {env:En} {C:Ce} {σ:St} {H:Hp} {x:V}
theorem dG.int {i:Int} (h:dG Z Θ env σ H (.int i) x):x=.int i:=h
theorem dG.str {i:Str} (h:dG Z Θ env σ H (.str i) x):x=.str i:=h
theorem dG.tup {ds:List PyData} (h:dG Z Θ env σ H (.tuple ds) x):∃a vs,x=.ref a∧H a=some (.tup vs)∧dJ (er (aL Z Θ env σ) H) ds vs:=by
 obtain ⟨a,vs,e,q,r⟩:=h
 exact ⟨a,vs,e,bL q,r⟩
theorem dG.lst {ds:List PyData} (h:dG Z Θ env σ H (.list ds) x):∃a vs,x=.ref a∧H a=some (.lst vs)∧dJ (er (aL Z Θ env σ) H) ds vs:=by
 obtain ⟨a,vs,e,q,r⟩:=h
 exact ⟨a,vs,e,bL q,r⟩
theorem dG.dct {kvs:List (PyData×PyData)} (h:dG Z Θ env σ H (.dict kvs) x):∃a vs,x=.ref a∧RG H a kvs vs∧oF (er (aL Z Θ env σ) H) kvs vs:=by
 obtain ⟨a,vs,e,q,r⟩:=h
 exact ⟨a,vs,e,q.same (rJ _ _),r⟩
theorem dG.flat {d:PyData} (f:fW d=true) (h:dG Z Θ env σ H d x):x=toV d:=by
 cases d <;> first | exact h | cases f
theorem dG.rx {d:PyData} (n:IW d=true) (h:dG Z Θ env σ H d x):RX H d x:=by
 cases d <;> first | exact h | skip
 ·obtain ⟨a,vs,e,q,r⟩:=h
  exact ⟨a,vs,e,bL q,(r.same (rJ _ _)).rx n⟩
 ·obtain ⟨a,vs,e,q,r⟩:=h
  exact ⟨a,vs,e,bL q,(r.same (rJ _ _)).rx n⟩
 ·cases n
end
section
variable {X:Cx}
noncomputable def bH:PyData→PyData→Option Vl
 | .int i,.int j=>some (.im (.int (i + j)))
 | .str x,.str y=>if x.length + y.length≤LIM then some (.im (.str (x++y))) else none
 | .list xs,.list ys=>if xs.length + ys.length≤LIM then some (.ow (.list (xs++ys))) else none
 | .tuple xs,.tuple ys=>if xs.isEmpty then some (.im (.tuple ys)) else if xs.length + ys.length≤LIM then some (.im (.tuple (xs++ys))) else none
 | _,_=>none
noncomputable def RL (K:PySem.W.Frag):R2:=fun x y H Q=>∃a b ys,x=.ref a∧y=.ref b∧gw K H a []∧gw K H b ys∧Q (.ref b) H
theorem PK {X:Cx}:gA X (binaryOp .Add) (RL X.K):=by
 intro pins s σ H x y v u Q I rx ry h
 obtain ⟨a,b,ys,rfl,rfl,ha,hb,q⟩:=h
 cases rx
 cases ry
 obtain ⟨its,r1,p1,_⟩:=I.tuple ha
 obtain ⟨its2,r2,p2,_⟩:=I.tuple hb
 obtain ⟨⟨cls,dd,data,sl⟩,ho,hc,n,hd⟩:=id p1
 obtain ⟨⟨cls2,dd2,data2,sl2⟩,ho2,hc2,n2,hd2⟩:=id p2
 simp only at hc hd hc2 hd2
 subst hc hd hc2 hd2
 exact concat_meets ⟨_,ho,rfl⟩ ⟨_,ho2,rfl⟩ noFill_tuple_add seq_tuple_add PySem.F.slot_tuple_add PySem.F.entry_tuple_add (PySem.F.args_tuple_add_2 _ _)
  (tuple_addW0 a b its.toArray its2.toArray n n2 dd dd2 sl sl2 (by cases r1; rfl)) ⟨ho,ho2,⟨.ref b,H,I,rfl,q⟩⟩
noncomputable def RM (K:PySem.W.Frag):R2:=fun x y H Q=>(((HJ fun i j=>.int (i + j)) x y H Q∨∃i j,x=.str i∧y=.str j∧i.length + j.length≤sizeLine∧Q (.str (i++j)) H)∨Wj x y H Q)∨RL K x y H Q∨Rn K x y H Q
theorem bw:gA X (binaryOp .Add) (RM X.K):=((Tr.or CG).or T9).or (PK.or OD)
theorem bQ {K:PySem.W.Frag}:mY K (RM K) bH:=by
 intro Z Θ env C σ H x y dx dy res S bx jg e Q q
 unfold bH at e
 split at e
 ·cases e
  cases bx.int; cases jg.int
  exact .inl (.inl (.inl ⟨_,_,rfl,rfl,q _ _ (bK.refl _ _) (bh S rfl rfl)⟩))
 ·split at e
  ·rename_i hl
   cases e
   cases bx.str; cases jg.str
   exact .inl (.inl (.inr ⟨_,_,rfl,rfl,dg hl,q _ _ (bK.refl _ _) (bh S rfl rfl)⟩))
  ·cases e
 ·split at e
  ·rename_i hl
   cases e
   obtain ⟨a,vs,rfl,ha,r1⟩:=bx.lst
   obtain ⟨b,ws,rfl,hb,r2⟩:=jg.lst
   exact .inl (.inr ⟨a,b,vs,ws,rfl,rfl,ha,hb,by rw [bT r1,bT r2]; exact dg hl,fun p hp=>q _ _ (bK.upd hp) (dO S (mK r1 r2) hp)⟩)
  ·cases e
 ·split at e
  ·rename_i xs ys he
   cases e
   have:xs=[]:=List.isEmpty_iff.mp he
   subst this
   have by2:=jg
   obtain ⟨a,vs,rfl,ha,r1⟩:=bx.tup
   obtain ⟨b,ws,rfl,hb,r2⟩:=jg.tup
   cases (show vs=[] from r1)
   exact .inr (.inl ⟨a,b,ws,rfl,rfl,gw.of ha,gw.of hb,q _ _ (bK.refl _ _) ⟨S,by2⟩⟩)
  split at e
  ·rename_i xs ys he hl
   cases e
   obtain ⟨a,vs,rfl,ha,r1⟩:=bx.tup
   obtain ⟨b,ws,rfl,hb,r2⟩:=jg.tup
   have l1:=bT r1
   have l2:=bT r2
   have hv:vs≠[]:=fun z=>by
    subst z
    cases xs with
    | nil=>exact he rfl
    | cons _ _=>cases l1
   refine .inr (.inr ⟨a,b,vs,ws,rfl,rfl,gw.of ha,gw.of hb,hv,by rw [l1,l2]; exact dg hl,fun z=>?_,fun _ p hp=>q _ _ (bK.upd hp) (tD S (mK r1 r2) hp)⟩)
   subst z
   have:ys=[]:=List.eq_nil_of_length_eq_zero l2.symm
   subst this
   rw [List.append_nil] at q
   refine q _ _ (bK.refl _ _) ⟨S,?_⟩
   exact bx
  ·cases e
 ·cases e
noncomputable def xm:PyData→PyData→Option Vl
 | .int i,.int j=>some (.im (.int (i - j)))
 | _,_=>none
theorem yQ {K:PySem.W.Frag} {g:Int→Int→V} {op:PyData→PyData→Option Vl} (h:∀dx dy res,op dx dy=some res→∃i j d,dx=.int i∧dy=.int j∧res=.im d∧fW d=true∧g i j=toV d):mY K (HJ g) op:=by
 intro Z Θ env C σ H x y dx dy res S bx jg e Q q
 obtain ⟨i,j,d,rfl,rfl,rfl,f,hv⟩:=h _ _ _ e
 cases bx.int; cases jg.int
 exact ⟨_,_,rfl,rfl,q _ _ (bK.refl _ _) (bh S f hv)⟩
theorem yR {K:PySem.W.Frag} {Cn:Int→Int→Prop} {g:Int→Int→V} {op:PyData→PyData→Option Vl} (h:∀dx dy res,op dx dy=some res→∃i j d,dx=.int i∧dy=.int j∧res=.im d∧fW d=true∧g i j=toV d∧Cn i j):mY K (rI Cn g) op:=by
 intro Z Θ env C σ H x y dx dy res S bx jg e Q q
 obtain ⟨i,j,d,rfl,rfl,rfl,f,hv,c⟩:=h _ _ _ e
 cases bx.int; cases jg.int
 exact ⟨_,_,rfl,rfl,c,q _ _ (bK.refl _ _) (bh S f hv)⟩
theorem Dy {K:PySem.W.Frag}:mY K (HJ fun i j=>.int (i - j)) xm:=yQ fun dx dy res e=>by
 unfold xm at e
 split at e <;> cases e
 exact ⟨_,_,_,rfl,rfl,rfl,rfl,rfl⟩
noncomputable def jX:PyData→PyData→Option Vl
 | .int i,.int j=>if 0 < j then some (.im (.int (i % j))) else none
 | _,_=>none
theorem nH {K:PySem.W.Frag}:mY K (rI (fun _ j=>0 < j) fun i j=>.int (i % j)) jX:=yR fun dx dy res e=>by
 unfold jX at e
 split at e
 ·split at e
  ·rename_i h; cases e; exact ⟨_,_,_,rfl,rfl,rfl,rfl,rfl,h⟩
  ·cases e
 ·cases e
noncomputable def qC:PyData→PyData→Option Vl
 | .int i,.int j=>if 0 < j∧j < 1073741824 then some (.im (.int (i / j))) else none
 | _,_=>none
theorem Gk {K:PySem.W.Frag}:mY K (rI V5 fun i j=>.int (i / j)) qC:=yR fun dx dy res e=>by
 unfold qC at e
 split at e
 ·split at e
  ·rename_i h; cases e; exact ⟨_,_,_,rfl,rfl,rfl,rfl,rfl,h⟩
  ·cases e
 ·cases e
noncomputable def mZ:PyData→PyData→Option Vl
 | .int i,.int j=>if 0≤j∧j≤1000000∧i.natAbs < 2 ^ 64 then some (.im (.int (i ^ j.toNat))) else none
 | _,_=>none
theorem Dz {K:PySem.W.Frag}:mY K (rI V6 fun i j=>.int (i ^ j.toNat)) mZ:=yR fun dx dy res e=>by
 unfold mZ at e
 split at e
 ·split at e
  ·rename_i h; cases e; exact ⟨_,_,_,rfl,rfl,rfl,rfl,rfl,h⟩
  ·cases e
 ·cases e
noncomputable def lB:PyData→PyData→Option Vl
 | .int i,.int j=>if (-(2 ^ 64) < i∧i < 2 ^ 64)∨(-(2 ^ 64) < j∧j < 2 ^ 64) then some (.im (.int (i * j))) else none
 | _,_=>none
theorem qD {K:PySem.W.Frag}:mY K (rI Ol fun i j=>.int (i * j)) lB:=yR fun dx dy res e=>by
 unfold lB at e
 split at e
 ·split at e
  ·rename_i h; cases e; exact ⟨_,_,_,rfl,rfl,rfl,rfl,rfl,h⟩
  ·cases e
 ·cases e
end
section
variable {X:Cx}
noncomputable def Us:PyData→PyData→Option Bool
 | .int i,.int j=>some (i==j)
 | .str x,.str y=>some (x==y)
 | .bool a,.bool b=>some (a==b)
 | d,e=>if IW d&&IW e&&(PySem.SeqAt.shaped d&&PySem.SeqAt.shaped e) then some (PyData.eqv d e) else none
noncomputable def o6 (d e:PyData):Option Vl:=(Us d e).map fun b=>.im (.bool b)
noncomputable def sS (d e:PyData):Option Vl:=(Us d e).map fun b=>.im (.bool (!b))
theorem DG (hu:X.A.units + 64 < cLine):gA X (compareOp .Eq) (fun x y H Q=>∃d e,RX H d x∧RX H e y∧PySem.SeqAt.shaped d=true∧PySem.SeqAt.shaped e=true∧Q (.bl (PyData.eqv d e)) H):=by
 intro pins s σ H x y v u Q I rx ry h
 obtain ⟨d,e,hd,he,h1,h2,q⟩:=h
 obtain ⟨as,ra⟩:=RD.reads I (hd.rd (K:=X.K)) rx
 obtain ⟨bs,rb⟩:=RD.reads I (he.rd (K:=X.K)) ry
 exact PySem.SeqAt.compareEq_shaped ra rb h1 h2 hu ⟨.bl _,H,I,rfl,q⟩
noncomputable def WK:R2:=fun x y H Q=>rEq x y H Q∨∃d e,RX H d x∧RX H e y∧PySem.SeqAt.shaped d=true∧PySem.SeqAt.shaped e=true∧Q (.bl (PyData.eqv d e)) H
noncomputable def WL:R2:=fun x y H Q=>rNe x y H Q∨∃d e,RX H d x∧RX H e y∧PySem.SeqAt.shaped d=true∧PySem.SeqAt.shaped e=true∧Q (.bl (!PyData.eqv d e)) H
theorem lC (hu:X.A.units + 64 < cLine):gA X (compareOp .Eq) WK:=V7.or (DG hu)
theorem yS (hu:X.A.units + 64 < cLine):gA X (compareOp .NotEq) WL:=V8.or (Dn hu)
theorem xq {d e:PyData} {b:Bool} (h:Us d e=some b):(fW d=true∧fW e=true∧Tu (toV d) (toV e)=true∧b=decide (toV d=toV e))∨(IW d=true∧IW e=true∧PySem.SeqAt.shaped d=true∧PySem.SeqAt.shaped e=true∧b=PyData.eqv d e):=by
 unfold Us at h
 split at h
 ·cases h; exact .inl ⟨rfl,rfl,rfl,yu.symm⟩
 ·cases h; exact .inl ⟨rfl,rfl,rfl,yw.symm⟩
 ·cases h; exact .inl ⟨rfl,rfl,rfl,Cw.symm⟩
 ·split at h
  ·rename_i q
   cases h
   rw [Bool.and_eq_true,Bool.and_eq_true,Bool.and_eq_true] at q
   exact .inr ⟨q.1.1,q.1.2,q.2.1,q.2.2,rfl⟩
  ·cases h
theorem rM {K:PySem.W.Frag}:mY K WK o6:=by
 intro Z Θ env C σ H x y dx dy res S bx jg e Q q
 unfold o6 at e
 cases h:Us dx dy with
 | none=>rw [h] at e; cases e
 | some b=>
  rw [h] at e
  cases e
  have fin:=q (.bl b) H (bK.refl _ _) (bh S rfl rfl)
  rcases xq h with ⟨f1,f2,sc,eb⟩ | ⟨n1,n2,s1,s2,eb⟩
  ·rw [bx.flat f1,jg.flat f2]
   rw [eb] at fin
   exact .inl ⟨sc,fin⟩
  ·rw [eb] at fin
   exact .inr ⟨dx,dy,bx.rx n1,jg.rx n2,s1,s2,fin⟩
theorem Gm {K:PySem.W.Frag}:mY K WL sS:=by
 intro Z Θ env C σ H x y dx dy res S bx jg e Q q
 unfold sS at e
 cases h:Us dx dy with
 | none=>rw [h] at e; cases e
 | some b=>
  rw [h] at e
  cases e
  have fin:=q (.bl (!b)) H (bK.refl _ _) (bh S rfl rfl)
  rcases xq h with ⟨f1,f2,sc,eb⟩ | ⟨n1,n2,s1,s2,eb⟩
  ·rw [bx.flat f1,jg.flat f2]
   rw [eb] at fin
   exact .inl ⟨sc,fin⟩
  ·rw [eb] at fin
   exact .inr ⟨dx,dy,bx.rx n1,jg.rx n2,s1,s2,fin⟩
noncomputable def strLt (x y:Str):Bool:=decide (x.cps.toList < y.cps.toList)
noncomputable def RN (xs ys:List PyData):Option Bool:=match keysOf xs,keysOf ys with
 | some ks,some js=>if ks.map eZ=js.map eZ then some (jd ks js) else none
 | _,_=>none
noncomputable def Lb:PyData→PyData→Option Vl
 | .int i,.int j=>some (.im (.bool (decide (i < j))))
 | .str x,.str y=>some (.im (.bool (strLt x y)))
 | .tuple xs,.tuple ys=>(RN xs ys).map fun b=>.im (.bool b)
 | _,_=>none
theorem gO {E:Hp}:∀{ds:List PyData} {ks:List Key} {vs:List V},keysOf ds=some ks→dJ E ds vs→vs=ks.map kV
 | [],ks,vs,h,r=>by cases h; exact r
 | d::ds,ks,vs,h,r=>by
  unfold keysOf at h
  split at h
  ·rename_i k t h1 h2
   cases h
   obtain ⟨u,w,e1,q,s⟩:=r
   rw [e1,gO h2 s]
   have:u=kV k:=by
    cases d <;> first | (cases h1; exact q) | cases h1
   rw [this]
   rfl
  ·cases h
noncomputable def Ze:R2:=fun x y H Q=>(∃a b,x=kV a∧y=kV b∧eZ a=eZ b∧Q (.bl (kLt a b)) H)∨∃a b ks js,x=.ref a∧y=.ref b∧H a=some (.tup (ks.map kV))∧H b=some (.tup (js.map kV))∧ks.map eZ=js.map eZ∧Q (.bl (jd ks js)) H
theorem WM {K:PySem.W.Frag}:mY K Ze Lb:=by
 intro Z Θ env C σ H x y dx dy res S bx jg e Q q
 unfold Lb at e
 split at e
 ·cases e
  cases bx.int; cases jg.int
  exact .inl ⟨.inl _,.inl _,rfl,rfl,rfl,q _ _ (bK.refl _ _) (bh S rfl rfl)⟩
 ·cases e
  cases bx.str; cases jg.str
  exact .inl ⟨.inr _,.inr _,rfl,rfl,rfl,q _ _ (bK.refl _ _) (bh S rfl rfl)⟩
 ·rename_i xs ys
  unfold RN at e
  split at e
  ·rename_i ks js h1 h2
   split at e
   ·rename_i ht
    cases e
    obtain ⟨a,vs,rfl,ha,r1⟩:=bx.tup
    obtain ⟨b,ws,rfl,hb,r2⟩:=jg.tup
    rw [gO h1 r1] at ha
    rw [gO h2 r2] at hb
    exact .inr ⟨a,b,ks,js,rfl,rfl,ha,hb,ht,q _ _ (bK.refl _ _) (bh S rfl rfl)⟩
   ·cases e
  ·cases e
 ·cases e
noncomputable def yU:PyData→PyData→Option Vl
 | .int i,.int j=>some (.im (.bool (decide (i≤j))))
 | .str x,.str y=>some (.im (.bool (!strLt y x)))
 | _,_=>none
noncomputable def WN:R2:=fun x y H Q=>(HJ fun i j=>.bl (decide (i≤j))) x y H Q∨∃i j,x=.str i∧y=.str j∧Q (.bl (!(decide (j.cps.toList < i.cps.toList)))) H
theorem yV:gA X (compareOp .LtE) WN:=V9.or Ii
theorem Gn {K:PySem.W.Frag}:mY K WN yU:=by
 intro Z Θ env C σ H x y dx dy res S bx jg e Q q
 unfold yU at e
 split at e
 ·cases e
  cases bx.int; cases jg.int
  exact .inl ⟨_,_,rfl,rfl,q _ _ (bK.refl _ _) (bh S rfl rfl)⟩
 ·cases e
  cases bx.str; cases jg.str
  exact .inr ⟨_,_,rfl,rfl,q _ _ (bK.refl _ _) (bh S rfl rfl)⟩
 ·cases e
noncomputable def PL:PyData→PyData→Option Vl
 | .int i,.int j=>some (.im (.bool (decide (j < i))))
 | _,_=>none
noncomputable def Ja:PyData→PyData→Option Vl
 | .int i,.int j=>some (.im (.bool (decide (j≤i))))
 | _,_=>none
theorem WQ {K:PySem.W.Frag}:mY K (HJ fun i j=>.bl (decide (j < i))) PL:=yQ fun dx dy res e=>by
 unfold PL at e
 split at e <;> cases e
 exact ⟨_,_,_,rfl,rfl,rfl,rfl,rfl⟩
theorem Ld {K:PySem.W.Frag}:mY K (HJ fun i j=>.bl (decide (j≤i))) Ja:=yQ fun dx dy res e=>by
 unfold Ja at e
 split at e <;> cases e
 exact ⟨_,_,_,rfl,rfl,rfl,rfl,rfl⟩
noncomputable def isNone:PyData→Bool
 | .none=>true
 | _=>false
noncomputable def xu (d e:PyData):Option Vl:=if isNone e then some (.im (.bool (isNone d))) else none
noncomputable def yW (d e:PyData):Option Vl:=if isNone e then some (.im (.bool (!isNone d))) else none
theorem o7 {Z Θ:List Addr} {env:En} {σ:St} {H:Hp} {x:V} {d:PyData} (h:dG Z Θ env σ H d x):decide (x=V.non)=isNone d:=by
 cases d <;> first
  | (cases (show x=_ from h); rfl)
  | (obtain ⟨a,vs,e,_⟩:=h; subst e; rfl)
theorem Le {K:PySem.W.Frag}:mY K (fun x y H Q=>y=.non∧Q (.bl (decide (x=.non))) H) xu:=by
 intro Z Θ env C σ H x y dx dy res S bx jg e Q q
 unfold xu at e
 split at e
 ·rename_i hn
  cases e
  have hy:y=.non:=of_decide_eq_true ((o7 jg).trans hn)
  exact ⟨hy,by rw [o7 bx]; exact q _ _ (bK.refl _ _) (bh S rfl rfl)⟩
 ·cases e
theorem PN {K:PySem.W.Frag}:mY K (fun x y H Q=>y=.non∧Q (.bl (!decide (x=.non))) H) yW:=by
 intro Z Θ env C σ H x y dx dy res S bx jg e Q q
 unfold yW at e
 split at e
 ·rename_i hn
  cases e
  have hy:y=.non:=of_decide_eq_true ((o7 jg).trans hn)
  exact ⟨hy,by rw [o7 bx]; exact q _ _ (bK.refl _ _) (bh S rfl rfl)⟩
 ·cases e
end
end L2
namespace L2
open PySem PySem.Spec PyProof.Rows PySem.W
section
variable {X:Cx} {pins:List (Addr×Obj)} {σ:St} {H:Hp} {s:Shared} {a b:Addr}
theorem Inv.WR (I:Inv X pins σ H s) (h:H a=some (.dK [])):Inv X pins σ (upd H a (.dT [])) s:=by
 obtain ⟨z,hm,vs,r,o,es,ep,h1,h2,h3,h4,h5,h6⟩:=I.hok a _ h
 cases r
 have e0:es.toList=[]:=by
  cases hh:es.toList with
  | nil=>rfl
  | cons x xs=>rw [hh] at h5; cases h5
 have:=mD (t':=s.toks) (ob:=.dT []) I (by rw [h]; trivial) (Heap.SameBut.refl a s.heap) ⟨_,h1⟩ ⟨Nat.zero_le _,hm,[],.nil,o,es,ep,h1,h2,h3,e0,List.nodup_nil⟩
 exact this
theorem Inv.XS (I:Inv X pins σ (upd H a (.dT [])) s) (h:H a=some (.dK [])):Inv X pins σ H s:=by
 obtain ⟨z,hm,xs,r,o,es,ep,h1,h2,h3,h4,h5⟩:=I.hok a _ aK
 cases r
 have e0:es=#[]:=by
  cases es
  simp at h4
  rw [h4]
 subst e0
 have:=mD (t':=s.toks) (ob:=.dK []) I (by rw [aK]; trivial) (Heap.SameBut.refl a s.heap) ⟨_,h1⟩ (Dd (Nat.zero_le _) hm .nil ⟨o,#[],ep,h1,h2,h3,fun i hi=>absurd hi (by simp),.nil,List.nodup_nil⟩)
 rw [Ex] at this
 have e:upd H a (.dK [])=H:=by
  funext b
  by_cases hb:b=a
  ·subst hb; rw [aK,h]
  ·exact aO hb
 rw [e] at this
 exact this
end
noncomputable def Gp (H:Hp) (a:Addr) (y:V) (r:Option V):Prop:=kO H a y r∨(H a=some (.dK [])∧(∃(b:Addr) (ks:List Key),y=.ref b∧H b=some (.tup (ks.map kV)))∧r=none)
section
variable {X:Cx} {pins:List (Addr×Obj)} {σ:St} {H:Hp} {s:Shared} {a:Addr} {y v:V} {u r:Value} {o:Option V} {A:Around} {E:Value→Shared→Prop}
theorem Gp.re (ha:H a=some (.dK [])) {b:Addr} {ks:List Key} (hb:H b=some (.tup (ks.map kV))):kO (upd H a (.dT [])) a (.ref b) none:=by
 have:(upd H a (.dT [])) b=some (.tup (ks.map kV)):=by rw [aO (JL hb ha (fun z=>nomatch z))]; exact hb
 exact kO.t (kvs:=[]) (k:=ks) aK this
theorem WT {Q:Value→Shared→Prop} (hu:A.units + 1 < cLine) (I:Inv X pins σ H s) (g:Gp H a y o) (ry:RelV y u) (h:∀s',Inv X pins σ H s'→Q (.bool o.isSome) s'):wpAny (model X.prog X.w) A (compareOp .In u (.ref a)) Q E s:=by
 rcases g with g | ⟨ha,⟨b,ks,rfl,hb⟩,rfl⟩
 ·exact Wk hu I g ry h
 ·exact Wk hu (I.WR ha) (Gp.re ha hb) ry fun s' I'=>h s' (I'.XS ha)
theorem Lf {Q:Value→Shared→Prop} (hu:A.units + 1 < cLine) (I:Inv X pins σ H s) (g:Gp H a y o) (ry:RelV y u) (h:∀s',Inv X pins σ H s'→Q (.bool (!o.isSome)) s'):wpAny (model X.prog X.w) A (compareOp .NotIn u (.ref a)) Q E s:=by
 rcases g with g | ⟨ha,⟨b,ks,rfl,hb⟩,rfl⟩
 ·exact Fp hu I g ry h
 ·exact Fp hu (I.WR ha) (Gp.re ha hb) ry fun s' I'=>h s' (I'.XS ha)
theorem Ut (hu:X.A.units + 1 < cLine):gA X (compareOp .In) (fun y x H Q=>∃a o,x=.ref a∧Gp H a y o∧Q (.bl o.isSome) H):=by
 intro pins s σ H x y v u Q I rx ry h
 obtain ⟨a,o,rfl,g,q⟩:=h
 cases ry
 exact WT hu I g rx fun s' I'=>⟨.bl _,H,I',rfl,q⟩
theorem Jb (hu:X.A.units + 1 < cLine):gA X (compareOp .NotIn) (fun y x H Q=>∃a o,x=.ref a∧Gp H a y o∧Q (.bl (!o.isSome)) H):=by
 intro pins s σ H x y v u Q I rx ry h
 obtain ⟨a,o,rfl,g,q⟩:=h
 cases ry
 exact Lf hu I g rx fun s' I'=>⟨.bl _,H,I',rfl,q⟩
theorem PX (hu:X.A.units + 1 < cLine):JF X (fun x y H Q=>∃a v,x=.ref a∧kO H a y (some v)∧Q v H):=by
 intro value slice pins s σ H x y v u Q I rx ry h hs
 obtain ⟨a,z,rfl,g,q⟩:=h
 cases rx
 have hT:=zZ I g
 have h2:wpAny (model X.prog X.w) X.A (getItem (.ref a) u) (EP X pins σ Q) X.xe s:=HY hu I g ry fun w' s' I' r'=>⟨z,H,I',r',q⟩
 unfold subscriptTail
 refine wpAny_bind ?_
 rw [getitemInPython_of_ne hT.not_modules]
 refine wpAny_bind (wpAny_specialOf hT PySem.F.slot_dict_getitem.lookup ?_)
 have fin:wpAny (model X.prog X.w) X.A (subscripted slice false (.ref a) u) (fun r s₃=>wpAny (model X.prog X.w) X.A (letTemporaryGo value (.ref a) r >>= fun _=>pure r) (EP X pins σ Q) X.xe s₃) X.xe s:=by
  rw [hs]
  exact wpAny_operating (wpAny_mono h2 (fun r s₃ h₃=>wpAny_bind (wpAny_letTemporaryGo (wpAny_pure h₃))) fun _ _ x=>x)
 first
  | exact wpAny_pure (wpAny_bind fin)
  | exact wpAny_bind (wpAny_pure (wpAny_bind fin))
  | exact wpAny_bind fin
end
noncomputable def gR {κ:Type} [DecidableEq κ] (f:PyData→Option κ) (k:κ):List (PyData×PyData)→Option PyData
 | []=>none
 | p::r=>if f p.1=some k then some p.2 else gR f k r
noncomputable def iG (kvs:List (PyData×PyData)) (d:PyData):Option (Option PyData):=match cZ d with
 | some k=>if (cz cZ kvs).isSome then some (gR cZ k kvs) else none
 | none=>match cO d with
  | some ks=>if (cz cO kvs).isSome then some (gR cO ks kvs) else none
  | none=>none
theorem uE {κ:Type} [DecidableEq κ] {f:PyData→Option κ} {k:κ} {E:Hp}:∀{kvs:List (PyData×PyData)} {ks:List κ} {vs:List V},cz f kvs=some ks→oF E kvs vs→
  (∃d v,gR f k kvs=some d∧mV (ks.zip vs) k=some v∧RZ E d v)∨(gR f k kvs=none∧mV (ks.zip vs) k=none)
 | [],ks,vs,h,r=>by
  cases h
  cases (show vs=[] from r)
  exact .inr ⟨rfl,rfl⟩
 | (p,d)::kvs,ks,vs,h,r=>by
  unfold cz at h
  split at h
  ·rename_i k' t h1 h2
   cases h
   obtain ⟨v,w,rfl,q,s⟩:=r
   by_cases e:k'=k
   ·subst e
    refine .inl ⟨d,v,?_,?_,q⟩
    ·unfold gR; rw [if_pos h1]
    ·exact oN (p:=(k',v)) rfl
   ·have e1:gR f k ((p,d)::kvs)=gR f k kvs:=by
     show (if f p=some k then some d else gR f k kvs)=_
     rw [if_neg]
     intro z
     rw [h1] at z
     exact e (Option.some.inj z)
    have e2:mV ((k'::t).zip (v::w)) k=mV (t.zip w) k:=oO (p:=(k',v)) e
    rw [e1,e2]
    exact uE h2 s
  ·cases h
theorem gU {κ:Type} {f:PyData→Option κ}:∀{kvs:List (PyData×PyData)} {ks:List κ},cz f kvs=some ks→ks.length=kvs.length
 | [],ks,h=>by cases h; rfl
 | p::kvs,ks,h=>by
  unfold cz at h
  split at h
  ·rename_i k' t h1 h2
   cases h
   rw [List.length_cons,List.length_cons,gU h2]
  ·cases h
theorem Uu {E:Hp} {d:PyData} {k:Key} {v:V} (h:cZ d=some k) (r:RZ E d v):v=kV k:=by
 cases d <;> first | (cases h; exact r) | cases h
theorem Uv {d:PyData} {k:Key} {ks:List Key} (h:cZ d=some k) (g:cO d=some ks):False:=by
 cases d <;> first | (cases h; done) | (cases g; done)
section
variable {K:PySem.W.Frag} {Z Θ:List Addr} {env:En} {C:Ce} {σ:St} {H:Hp} {x y:V}
theorem jw {kvs:List (PyData×PyData)} {ks:List Key} {js:List (List Key)} (h:cz cZ kvs=some ks) (g:cz cO kvs=some js):kvs=[]:=by
 cases kvs with
 | nil=>rfl
 | cons p r=>
  unfold cz at h g
  split at h
  ·rename_i h1 h2
   split at g
   ·rename_i h3 h4
    exact (Uv h1 h3).elim
   ·cases g
  ·cases h
theorem dG.get {kvs:List (PyData×PyData)} {d:PyData} {o:Option PyData} (h:dG Z Θ env σ H (.dict kvs) x) (hy:dG Z Θ env σ H d y) (e:iG kvs d=some o):
  ∃a r,x=.ref a∧Gp H a y r∧((∃v,r=some v∧∃d',o=some d'∧RZ (er (aL Z Θ env σ) H) d' v∧kO H a y (some v))∨(r=none∧o=none)):=by
 obtain ⟨a,vs,rfl,dt,rd⟩:=h.dct
 unfold iG at e
 split at e
 ·rename_i k hk
  split at e
  ·rename_i hs
   cases e
   have yk:y=kV k:=by
    cases d <;> first | (cases hk; exact hy) | cases hk
   have dk:∃ks,cz cZ kvs=some ks∧H a=some (.dK (ks.zip vs)):=by
    rcases dt with h | ⟨ks,⟨ne,h2⟩,_⟩
    ·exact h
    ·obtain ⟨ks',h1⟩:=Option.isSome_iff_exists.mp hs
     exact absurd (jw h1 h2) ne
   obtain ⟨ks,h1,ha⟩:=dk
   have g:=kO.k (k:=k) ha
   rw [←yk] at g
   rcases uE (k:=k) h1 rd with ⟨d',v,e1,e2,r⟩ | ⟨e1,e2⟩
   ·rw [e2] at g
    exact ⟨a,some v,rfl,.inl g,.inl ⟨v,rfl,d',e1,r,g⟩⟩
   ·rw [e2] at g
    exact ⟨a,none,rfl,.inl g,.inr ⟨rfl,e1⟩⟩
  ·cases e
 ·split at e
  ·rename_i ks hks
   split at e
   ·rename_i hs
    cases e
    obtain ⟨b,hb,rfl⟩:∃b,H b=some (.tup (ks.map kV))∧y=.ref b:=by
     cases d <;> first | cases hks | skip
     obtain ⟨b,ws,rfl,hb,r⟩:=hy.tup
     rw [gO hks r] at hb
     exact ⟨b,hb,rfl⟩
    rcases dt with ⟨js,h1,ha⟩ | ⟨js,⟨ne,h1⟩,ha⟩
    ·obtain ⟨js',h2⟩:=Option.isSome_iff_exists.mp hs
     have:=jw h1 h2
     subst this
     cases h1
     exact ⟨a,none,rfl,.inr ⟨ha,⟨b,ks,rfl,hb⟩,rfl⟩,.inr ⟨rfl,rfl⟩⟩
    ·have g:=kO.t (k:=ks) ha hb
     rcases uE (k:=ks) h1 rd with ⟨d',v,e1,e2,r⟩ | ⟨e1,e2⟩
     ·rw [e2] at g
      exact ⟨a,some v,rfl,.inl g,.inl ⟨v,rfl,d',e1,r,g⟩⟩
     ·rw [e2] at g
      exact ⟨a,none,rfl,.inl g,.inr ⟨rfl,e1⟩⟩
   ·cases e
  ·cases e
end
noncomputable def inD (d:PyData) (ds:List PyData):Bool:=ds.any fun e=>Kc (toV e) (toV d)
noncomputable def inB (d:PyData):PyData→Option Bool
 | .list ds=>if fW d&&ds.all fW then some (inD d ds) else none
 | .tuple ds=>if fW d&&ds.all fW then some (inD d ds) else none
 | .dict kvs=>(iG kvs d).map (·.isSome)
 | _=>none
noncomputable def yX (d e:PyData):Option Vl:=(inB d e).map fun b=>.im (.bool b)
noncomputable def o8 (d e:PyData):Option Vl:=(inB d e).map fun b=>.im (.bool (!b))
noncomputable def WW (K:PySem.W.Frag):R2:=fun x y H Q=>XM K false x y H Q∨∃a o,y=.ref a∧Gp H a x o∧Q (.bl o.isSome) H
noncomputable def Gq (K:PySem.W.Frag):R2:=fun x y H Q=>XM K true x y H Q∨∃a o,y=.ref a∧Gp H a x o∧Q (.bl (!o.isSome)) H
theorem yZ {X:Cx} (hu:X.A.units + 1 < cLine):gA X (compareOp .In) (WW X.K):=HX.or (Ut hu)
theorem Jc {X:Cx} (hu:X.A.units + 1 < cLine):gA X (compareOp .NotIn) (Gq X.K):=yF.or (Jb hu)
theorem qF {d:PyData} (f:fW d=true):jq (toV d)=true:=by
 cases d <;> first | rfl | cases f
theorem RP {d:PyData} {ds:List PyData}:inV (toV d) (ds.map toV)=inD d ds:=by
 unfold inV inD
 rw [List.any_map]
 rfl
theorem Gr {ds:List PyData} (f:ds.all fW=true):(ds.map toV).all jq=true:=by
 rw [List.all_map,List.all_eq_true]
 intro d hd
 exact qF (List.all_eq_true.mp f d hd)
theorem Az {K:PySem.W.Frag} {Z Θ:List Addr} {env:En} {σ:St} {H:Hp} {x y:V} {dx dy:PyData} {b:Bool} (bx:dG Z Θ env σ H dx x) (jg:dG Z Θ env σ H dy y) (e:inB dx dy=some b):
  (∃p xs,y=.ref p∧(cJ K H p xs∨gw K H p xs)∧jq x=true∧xs.all jq=true∧inV x xs=b)∨∃a o,y=.ref a∧Gp H a x o∧o.isSome=b:=by
 unfold inB at e
 split at e
 ·split at e
  ·rename_i ds hf
   rw [Bool.and_eq_true] at hf
   cases e
   obtain ⟨a,vs,rfl,ha,r⟩:=jg.lst
   rw [uB hf.2 r] at ha
   rw [bx.flat hf.1]
   exact .inl ⟨a,_,rfl,.inl (cJ.of ha),qF hf.1,Gr hf.2,RP⟩
  ·cases e
 ·split at e
  ·rename_i ds hf
   rw [Bool.and_eq_true] at hf
   cases e
   obtain ⟨a,vs,rfl,ha,r⟩:=jg.tup
   rw [uB hf.2 r] at ha
   rw [bx.flat hf.1]
   exact .inl ⟨a,_,rfl,.inr (gw.of ha),qF hf.1,Gr hf.2,RP⟩
  ·cases e
 ·rename_i kvs
  cases hl:iG kvs dx with
  | none=>rw [hl] at e; cases e
  | some o=>
   rw [hl] at e
   cases e
   obtain ⟨a,r,rfl,g,q⟩:=jg.get bx hl
   refine .inr ⟨a,r,rfl,g,?_⟩
   rcases q with ⟨v,rfl,d',rfl,_⟩ | ⟨rfl,rfl⟩ <;> rfl
 ·cases e
theorem Gs {K:PySem.W.Frag}:mY K (WW K) yX:=by
 intro Z Θ env C σ H x y dx dy res S bx jg e Q q
 unfold yX at e
 cases h:inB dx dy with
 | none=>rw [h] at e; cases e
 | some b=>
  rw [h] at e
  cases e
  have fin:=q (.bl b) H (bK.refl _ _) (bh S rfl rfl)
  rcases Az (K:=K) bx jg h with ⟨p,xs,e1,e2,e3,e4,e5⟩ | ⟨a,o,e1,e2,e3⟩
  ·rw [←e5] at fin
   exact .inl ⟨p,xs,e1,e2,e3,e4,fin⟩
  ·rw [←e3] at fin
   exact .inr ⟨a,o,e1,e2,fin⟩
theorem Lg {K:PySem.W.Frag}:mY K (Gq K) o8:=by
 intro Z Θ env C σ H x y dx dy res S bx jg e Q q
 unfold o8 at e
 cases h:inB dx dy with
 | none=>rw [h] at e; cases e
 | some b=>
  rw [h] at e
  cases e
  have fin:=q (.bl (!b)) H (bK.refl _ _) (bh S rfl rfl)
  rcases Az (K:=K) bx jg h with ⟨p,xs,e1,e2,e3,e4,e5⟩ | ⟨a,o,e1,e2,e3⟩
  ·rw [←e5] at fin
   exact .inl ⟨p,xs,e1,e2,e3,e4,fin⟩
  ·rw [←e3] at fin
   exact .inr ⟨a,o,e1,e2,fin⟩
noncomputable def NZ:PyData→PyData→Option PyData
 | .list ds,.int i=>gC ds i
 | .tuple ds,.int i=>gC ds i
 | .str z,.int i=>if z.length≤LIM then (gC z.cps.toList i).map fun c=>.str ⟨#[c]⟩ else none
 | .dict kvs,d=>match iG kvs d with
  | some (some e)=>some e
  | _=>none
 | _,_=>none
noncomputable def bf (d e:PyData):Option Vl:=(NZ d e).map .im
noncomputable def WX (K:PySem.W.Frag):R2:=fun x y H Q=>rIx K x y H Q∨∃a v,x=.ref a∧kO H a y (some v)∧Q v H
theorem aQ {X:Cx} (hu:X.A.units + 1 < cLine):JF X (WX X.K):=T6.or (PX hu)
theorem Gu {E:Hp} {ds:List PyData} {vs:List V} {i:Int} {d:PyData} (r:dJ E ds vs) (e:gC ds i=some d):∃v,gC vs i=some v∧RZ E d v:=by
 unfold gC at e ⊢
 rw [bT r]
 cases h:yz ds.length i with
 | none=>rw [h] at e; cases e
 | some j=>
  rw [h] at e
  exact nG r e
theorem bB {K:PySem.W.Frag}:mY K (WX K) bf:=by
 intro Z Θ env C σ H x y dx dy res S bx jg e Q q
 unfold bf at e
 cases h:NZ dx dy with
 | none=>rw [h] at e; cases e
 | some d=>
  rw [h] at e
  cases e
  unfold NZ at h
  split at h
  ·obtain ⟨a,vs,rfl,ha,r⟩:=bx.lst
   cases jg.int
   obtain ⟨v,e1,r1⟩:=Gu r h
   exact .inl (.inl ⟨a,vs,_,v,rfl,rfl,cJ.of ha,e1,q _ _ (bK.refl _ _) ⟨S,r1⟩⟩)
  ·obtain ⟨a,vs,rfl,ha,r⟩:=bx.tup
   cases jg.int
   obtain ⟨v,e1,r1⟩:=Gu r h
   exact .inl (.inr (.inl ⟨a,vs,_,v,rfl,rfl,gw.of ha,e1,q _ _ (bK.refl _ _) ⟨S,r1⟩⟩))
  ·split at h
   ·rename_i z i hz
    cases bx.str
    cases jg.int
    cases hc:gC z.cps.toList i with
    | none=>rw [hc] at h; cases h
    | some c=>
     rw [hc] at h
     cases h
     exact .inl (.inr (.inr ⟨z,i,c,rfl,rfl,dg hz,hc,q _ _ (bK.refl _ _) (bh S rfl rfl)⟩))
   ·cases h
  ·split at h
   ·rename_i kvs e' hl
    cases h
    obtain ⟨a,r,rfl,g,hq⟩:=bx.get jg hl
    rcases hq with ⟨v,rfl,d',e1,r1,g1⟩ | ⟨_,e1⟩
    ·cases e1
     exact .inr ⟨a,v,rfl,g1,q _ _ (bK.refl _ _) ⟨S,r1⟩⟩
    ·cases e1
   ·cases h
  ·cases h
end L2
namespace L2
open PySem PySem.Spec PyProof.Rows PySem.W
noncomputable def truD:PyData→Option Bool
 | .none=>some false
 | .bool b=>some b
 | .int i=>some (i != 0)
 | .str x=>if x.length≤LIM then some ((x.length:Int) != 0) else none
 | .list ds=>some (!ds.isEmpty)
 | .tuple ds=>some (!ds.isEmpty)
 | .dict kvs=>if (cz cZ kvs).isSome then some (!kvs.isEmpty) else none
noncomputable def fTru (f:FB):FT:=fun env C=>match f env C with
 | some (d,_,C')=>match truD d with
  | some b=>some (b,C')
  | none=>none
 | none=>none
noncomputable def fTst (f:FE):FT:=fun env C=>match f env C with
 | some (.im (.bool b),_,C')=>some (b,C')
 | _=>none
noncomputable def uF (f:FT):FT:=fun env C=>match f env C with
 | some (b,C')=>some (!b,C')
 | none=>none
noncomputable def jY (f g:FT):FT:=fun env C=>match f env C with
 | some (true,C')=>g env C'
 | some (false,C')=>some (false,C')
 | none=>none
noncomputable def Jd (f g:FT):FT:=fun env C=>match f env C with
 | some (true,C')=>some (true,C')
 | some (false,C')=>g env C'
 | none=>none
theorem Uw {K:PySem.W.Frag} {Z Θ:List Addr} {env:En} {σ:St} {H:Hp} {x:V} {d:PyData} {b:Bool} (h:dG Z Θ env σ H d x) (e:truD d=some b):Tv K x H b:=by
 cases d with
 | none=>cases e; cases (show x=_ from h); rfl
 | bool c=>cases e; cases (show x=_ from h); rfl
 | int i=>cases e; cases (show x=_ from h); rfl
 | str z=>
  simp only [truD] at e
  split at e
  ·rename_i hz; cases e; cases (show x=_ from h); exact ⟨dg hz,rfl⟩
  ·cases e
 | list ds=>
  cases e
  obtain ⟨a,vs,rfl,ha,r⟩:=h.lst
  refine .inl ⟨vs,cJ.of ha,?_⟩
  have:=bT r
  cases ds <;> cases vs <;> first | rfl | cases this
 | tuple ds=>
  cases e
  obtain ⟨a,vs,rfl,ha,r⟩:=h.tup
  refine .inr (.inl ⟨vs,gw.of ha,?_⟩)
  have:=bT r
  cases ds <;> cases vs <;> first | rfl | cases this
 | dict kvs=>
  simp only [truD] at e
  split at e
  ·rename_i hs
   cases e
   obtain ⟨a,vs,rfl,da,r⟩:=h.dct
   rcases da with ⟨ks,h1,ha⟩ | ⟨ks,⟨ne,h2⟩,ha⟩
   ·refine .inr (.inr ⟨_,ha,?_⟩)
    have l1:=gU h1
    have l2:=tB r
    cases kvs <;> cases ks <;> cases vs <;> first | rfl | cases l1 | cases l2
   ·obtain ⟨ks',h1⟩:=Option.isSome_iff_exists.mp hs
    exact absurd (jw h1 h2) ne
  ·cases e
section
variable {X:Cx} {a b:Expr} {pos:Pos}
theorem qG {f:FB} (h:PE X a (jD X.K f)) (he:∀whole,isTrue a X.env whole=(do let v ←whole; standAt a.pos; holding [v] (truthy v)):=by intro _; rfl):PT X a (kh X.K (fTru f)):=
 (J5 h he).weak fun σ H Q aR=>by
  obtain ⟨Z,Θ,env,C,b,C',S,hf,q⟩:=aR
  unfold fTru at hf
  split at hf
  ·rename_i d e1 C1 h1
   split at hf
   ·rename_i b' hb
    cases hf
    exact ⟨Z,Θ,env,C,d,e1,C',S,h1,fun v H' k f S' bo=>⟨b,Uw bo hb,q H' k (S.go k S'.cell)⟩⟩
   ·cases hf
  ·cases hf
theorem Ba {K:PySem.W.Frag} {t:TE} {f:FE} (w:∀σ H Q,tE K f σ H Q→t σ H Q):∀σ H Q,kh K (fTst f) σ H Q→J2 t σ H Q:=by
 rintro σ H Q ⟨Z,Θ,env,C,b,C',S,hf,q⟩
 unfold fTst at hf
 split at hf
 ·rename_i b' e1 C1 h1
  cases hf
  refine w _ _ _ ⟨Z,Θ,env,C,.im (.bool b),e1,C',S,h1,fun v H' k f R=>?_⟩
  obtain ⟨S',r⟩:=R
  exact ⟨b,r,q H' k (S.go k S'.cell)⟩
 ·cases hf
theorem cU {o:CmpOp} {r:R2} {op:PyData→PyData→Option Vl} {fa fb:FB} (ho:gA X (compareOp o) r) (L:mY X.K r op) (ha:PE X a (jD X.K fa)) (hb:PE X b (jD X.K fb)) (hm:behindInMarks o b=false):
  PT X (.Compare a [o] [b] pos) (kh X.K (fTst (aG op fa fb))):=(Oq ho ha hb hm).weak (Ba (oZ L))
theorem DK {f:FT} (h:PT X a (kh X.K f)):PT X (.UnaryOp .Not a pos) (kh X.K (uF f)):=(S8 h).weak fun σ H Q aR=>by
 obtain ⟨Z,Θ,env,C,b,C',S,hf,q⟩:=aR
 unfold uF at hf
 split at hf
 ·rename_i b' C1 h1
  cases hf
  exact ⟨Z,Θ,env,C,b',C',S,h1,q⟩
 ·cases hf
theorem Lh {K:PySem.W.Frag} {f g:FT}:∀σ H Q,kh K (jY f g) σ H Q→VF (kh K f) (kh K g) σ H Q:=by
 rintro σ H Q ⟨Z,Θ,env,C,b,C',S,hf,q⟩
 unfold jY at hf
 split at hf
 ·rename_i C1 h1
  exact ⟨Z,Θ,env,C,true,C1,S,h1,fun H1 k1 S1=>vX ⟨Z,Θ,env,C1,b,C',S1,hf,fun H2 k2 S2=>q H2 (k1.trans k2) S2⟩⟩
 ·rename_i C1 h1
  cases hf
  exact ⟨Z,Θ,env,C,false,C',S,h1,fun H1 k1 S1=>vW (q H1 k1 S1)⟩
 ·cases hf
theorem P0 {K:PySem.W.Frag} {f g:FT}:∀σ H Q,kh K (Jd f g) σ H Q→tOr (kh K f) (kh K g) σ H Q:=by
 rintro σ H Q ⟨Z,Θ,env,C,b,C',S,hf,q⟩
 unfold Jd at hf
 split at hf
 ·rename_i C1 h1
  cases hf
  exact ⟨Z,Θ,env,C,true,C',S,h1,fun H1 k1 S1=>vX (q H1 k1 S1)⟩
 ·rename_i C1 h1
  exact ⟨Z,Θ,env,C,false,C1,S,h1,fun H1 k1 S1=>vW ⟨Z,Θ,env,C1,b,C',S1,hf,fun H2 k2 S2=>q H2 (k1.trans k2) S2⟩⟩
 ·cases hf
variable {rest:List Expr}
theorem tG {f:FT} (h:PT X a (kh X.K f)):PW X (.BoolOp .And [a] pos) (kh X.K f):=pw_and1 h
theorem Ux {f:FT} (h:PT X a (kh X.K f)):PW X (.BoolOp .Or [a] pos) (kh X.K f):=pw_or1 h
theorem qH {f g:FT} (h:PT X a (kh X.K f)) (hb:PW X (.BoolOp .And (b::rest) pos) (kh X.K g)):PW X (.BoolOp .And (a::b::rest) pos) (kh X.K (jY f g)):=(pw_and h hb).weak Lh
theorem WY {f g:FT} (h:PT X a (kh X.K f)) (hb:PW X (.BoolOp .Or (b::rest) pos) (kh X.K g)):PW X (.BoolOp .Or (a::b::rest) pos) (kh X.K (Jd f g)):=(pw_or h hb).weak P0
end
noncomputable def Je (op op':PyData→PyData→Option Vl) (fa fb fc:FB):FE:=fun env C=>match fa env C with
 | some (x,e1,C1)=>match fb e1 C1 with
  | some (y,e2,C2)=>match op x y with
   | some (.im (.bool true))=>match fc e2 C2 with
    | some (z,e3,C3)=>match op' y z with
     | some (.im (.bool b))=>some (.im (.bool b),env,C3)
     | _=>none
    | none=>none
   | some (.im (.bool false))=>some (.im (.bool false),env,C2)
   | _=>none
  | none=>none
 | none=>none
theorem Li {K:PySem.W.Frag} {r r':R2} {op op':PyData→PyData→Option Vl} (L:mY K r op) (L':mY K r' op') {fa fb fc:FB}:∀σ H Q,tE K (Je op op' fa fb fc) σ H Q→J3 r r' (jD K fa) (jD K fb) (jD K fc) σ H Q:=by
 rintro σ H Q ⟨Z,Θ,env,C,res,env',C',S,hf,q⟩
 unfold Je at hf
 split at hf
 ·rename_i x e1 C1 h1
  split at hf
  ·rename_i y e2 C2 h2
   refine ⟨Z,Θ,env,C,x,e1,C1,S,h1,fun v H1 k1 f1 S1 b1=>⟨Z,Θ,e1,C1,y,e2,C2,S1,h2,fun u H2 k2 f2 S2 b2=>?_⟩⟩
   split at hf
   ·rename_i h3
    split at hf
    ·rename_i z e3 C3 h4
     split at hf
     ·rename_i b h5
      cases hf
      refine L Z Θ e2 C2 σ H2 v u x y _ S2 (b1.go S1 k2 f2) b2 h3 _ fun w H3 k3 R=>⟨true,R.2,vX ⟨Z,Θ,e2,C2,z,e3,C',R.1,h4,fun w2 H4 k4 f4 S4 b4=>?_⟩⟩
      refine L' Z Θ e3 C' σ H4 u w2 y z _ S4 ((b2.go S2 k3 (Fz.refl _)).go R.1 k4 f4) b4 h5 Q fun w3 H5 k5 R5=>?_
      have k:=(((k1.trans k2).trans k3).trans k4).trans k5
      exact q w3 H5 k (Fz.refl _) ⟨S.go k R5.1.cell,R5.2⟩
     ·cases hf
    ·cases hf
   ·rename_i h3
    cases hf
    refine L Z Θ e2 C' σ H2 v u x y _ S2 (b1.go S1 k2 f2) b2 h3 _ fun w H3 k3 R=>⟨false,R.2,vW ?_⟩
    have k:=(k1.trans k2).trans k3
    exact q _ H3 k (Fz.refl _) ⟨S.go k R.1.cell,rfl⟩
   ·cases hf
  ·cases hf
 ·cases hf
section
variable {X:Cx} {a b c:Expr} {pos:Pos} {r r':R2} {o o':CmpOp} {op op':PyData→PyData→Option Vl} {fa fb fc:FB}
theorem Uy (ho:gA X (compareOp o) r) (L:mY X.K r op) (ho':gA X (compareOp o') r') (L':mY X.K r' op') (ha:PE X a (jD X.K fa)) (hb:PE X b (jD X.K fb)) (hc:PE X c (jD X.K fc))
  (hm:lastMarks [o,o'] [b,c]=false:=by with_unfolding_all rfl):PT X (.Compare a [o,o'] [b,c] pos) (kh X.K (fTst (Je op op' fa fb fc))):=(J4 ho ho' ha hb hc hm).weak (Ba (Li L L'))
end
noncomputable def o9 (f g:FE):FE:=fun env C=>match f env C with
 | some (.im (.bool true),_,C')=>g env C'
 | some (.im (.bool false),_,C')=>some (.im (.bool false),env,C')
 | _=>none
noncomputable def Lj (f:FE):FE:=fun env C=>match f env C with
 | some (.im (.bool b),_,C')=>some (.im (.bool (!b)),env,C')
 | _=>none
noncomputable def Lk (c:FT) (f g:FE):FE:=fun env C=>match c env C with
 | some (true,C')=>f env C'
 | some (false,C')=>g env C'
 | none=>none
noncomputable def fNeg (f:FB):FE:=fun env C=>match f env C with
 | some (.int i,_,C')=>some (.im (.int (-i)),env,C')
 | _=>none
section
variable {X:Cx} {a b c:Expr} {pos:Pos} {rest:List Expr}
theorem za {o} {f:FE} (h:PE X a (tE X.K f)):PE X (.BoolOp o [a] pos) (tE X.K f):=S9 h
theorem uG {f g:FE} (ha:PE X a (tE X.K f)) (hb:PE X (.BoolOp .And (b::rest) pos) (tE X.K g)):PE X (.BoolOp .And (a::b::rest) pos) (tE X.K (o9 f g)):=(Tc ha hb).weak fun σ H Q aR=>by
 obtain ⟨Z,Θ,env,C,r,env',C',S,hf,q⟩:=aR
 unfold o9 at hf
 split at hf
 ·rename_i e1 C1 h1
  refine ⟨Z,Θ,env,C,_,e1,C1,S,h1,fun v H1 k1 f1 R1=>⟨true,R1.2,vX ⟨Z,Θ,env,C1,r,env',C',S.go k1 R1.1.cell,hf,fun w H2 k2 f2 R2=>q w H2 (k1.trans k2) f2 (R2.from k1)⟩⟩⟩
 ·rename_i e1 C1 h1
  cases hf
  exact ⟨Z,Θ,env,C,_,e1,C',S,h1,fun v H1 k1 f1 R1=>⟨false,R1.2,vW (q _ H1 k1 (Fz.refl _) ⟨S.go k1 R1.1.cell,rfl⟩)⟩⟩
 ·cases hf
theorem Uz {f:FE} (ha:PE X a (tE X.K f)):PE X (.UnaryOp .Not a pos) (tE X.K (Lj f)):=(Td ha).weak fun σ H Q aR=>by
 obtain ⟨Z,Θ,env,C,r,env',C',S,hf,q⟩:=aR
 unfold Lj at hf
 split at hf
 ·rename_i b e1 C1 h1
  cases hf
  exact ⟨Z,Θ,env,C,_,e1,C',S,h1,fun v H1 k1 f1 R1=>⟨b,R1.2,q _ H1 k1 (Fz.refl _) ⟨S.go k1 R1.1.cell,rfl⟩⟩⟩
 ·cases hf
theorem W0 {t:FT} {f g:FE} (hc:PT X c (kh X.K t)) (ha:PE X a (tE X.K f)) (hb:PE X b (tE X.K g)):PE X (.IfExp c a b pos) (tE X.K (Lk t f g)):=(JP hc ha hb).weak fun σ H Q aR=>by
 obtain ⟨Z,Θ,env,C,r,env',C',S,hf,q⟩:=aR
 unfold Lk at hf
 split at hf
 ·rename_i C1 h1
  exact ⟨Z,Θ,env,C,true,C1,S,h1,fun H1 k1 S1=>vX ⟨Z,Θ,env,C1,r,env',C',S1,hf,fun w H2 k2 f2 R2=>q w H2 (k1.trans k2) f2 (R2.from k1)⟩⟩
 ·rename_i C1 h1
  exact ⟨Z,Θ,env,C,false,C1,S,h1,fun H1 k1 S1=>vW ⟨Z,Θ,env,C1,r,env',C',S1,hf,fun w H2 k2 f2 R2=>q w H2 (k1.trans k2) f2 (R2.from k1)⟩⟩
 ·cases hf
theorem Ln {f:FB} (ha:PE X a (jD X.K f)):PE X (.UnaryOp .USub a pos) (tE X.K (fNeg f)):=(V3 Tt ha).weak fun σ H Q aR=>by
 obtain ⟨Z,Θ,env,C,r,env',C',S,hf,q⟩:=aR
 unfold fNeg at hf
 split at hf
 ·rename_i i e1 C1 h1
  cases hf
  exact ⟨Z,Θ,env,C,_,e1,C',S,h1,fun v H1 k1 f1 S1 b1=>⟨i,b1,q _ H1 k1 (Fz.refl _) ⟨S.go k1 S1.cell,rfl⟩⟩⟩
 ·cases hf
end
noncomputable def pA (K:PySem.W.Frag) (E:Hp) (Θ:List Addr):Vl→V→Prop
 | .im d,v=>RZ E d v
 | .ow _,_=>False
 | .ce n,v=>∃a,v=.ref a∧Θ[n]?=some a
 | .sc ns,v=>∃a,v=.ref a∧cJ K E a (ns.map V.int)
inductive gh (K:PySem.W.Frag) (E:Hp) (Θ:List Addr):List Vl→List V→Prop
 | nil:gh K E Θ [] []
 | cons {x:Vl} {v:V} {xs:List Vl} {vs:List V}:pA K E Θ x v→gh K E Θ xs vs→gh K E Θ (x::xs) (v::vs)
theorem pA.same {K:PySem.W.Frag} {E E':Hp} {Θ:List Addr} (s:aV E E') {x:Vl} {v:V} (h:pA K E Θ x v):pA K E' Θ x v:=by
 cases x with
 | im d=>exact RZ.same s h
 | ow d=>exact h
 | ce n=>exact h
 | sc ns=>obtain ⟨a,e,q⟩:=h; exact ⟨a,e,s.seq q⟩
theorem gh.same {K:PySem.W.Frag} {E E':Hp} {Θ:List Addr} (s:aV E E') {xs:List Vl} {vs:List V} (h:gh K E Θ xs vs):gh K E' Θ xs vs:=by
 induction h with
 | nil=>exact .nil
 | cons a _ ih=>exact .cons (a.same s) ih
noncomputable def UG (K:PySem.W.Frag) (f:FA):TA:=fun σ H Q=>∃Z Θ env C xs env' C',Sm K Z Θ env C σ H∧f env C=some (xs,env',C')∧
 ∀vs H',bK Θ H H'→Fz env env'→Sm K Z Θ env' C' σ H'→gh K (er (aL Z Θ env' σ) H') Θ xs vs→Q vs H'
noncomputable def aNil:FA:=fun env C=>some ([],env,C)
noncomputable def aCons (f:FE) (g:FA):FA:=fun env C=>match f env C with
 | some (r,e1,C1)=>match g e1 C1 with
  | some (xs,e2,C2)=>some (still r::xs,e2,C2)
  | none=>none
 | none=>none
noncomputable def bNil:NQ:=fun env C=>some ([],env,C)
noncomputable def bCons (f:FB) (g:NQ):NQ:=fun env C=>match f env C with
 | some (d,e1,C1)=>match g e1 C1 with
  | some (ds,e2,C2)=>some (d::ds,e2,C2)
  | none=>none
 | none=>none
theorem Res.arg {K:PySem.W.Frag} {Z Θ:List Addr} {env:En} {C:Ce} {σ:St} {H H':Hp} {r:Vl} {v:V} (h:Res K Z Θ env C σ H H' r v):Sm K Z Θ env C σ H'∧pA K (er (aL Z Θ env σ) H') Θ (L2.still r) v:=by
 have g:=h.still
 cases r with
 | im d=>exact g
 | ow d=>exact g
 | ce n=>exact g
 | sc ns=>exact g
theorem Dw.same {E E' T T':Hp} (s:aV E E') (t:aV T T') {ds:List PyData} {vs:List V} (h:Dw E T ds vs):Dw E' T' ds vs:=by
 induction h with
 | nil=>exact .nil
 | cons a _ ih=>exact .cons (a.same s t) ih
section
variable {X:Cx} {e:Expr} {es:List Expr} {pos:Pos}
theorem aA:PA X [] (UG X.K aNil):=jb.weak fun σ H Q aR=>by
 obtain ⟨Z,Θ,env,C,xs,env',C',S,hf,q⟩:=aR
 cases hf
 exact q [] H (bK.refl _ _) (Fz.refl _) S .nil
theorem aa {f:FE} {g:FA} (h:PE X e (tE X.K f)) (hr:PA X es (UG X.K g)) (hs:starEach (e::es) X.env=(false,eval e X.env)::starEach es X.env:=by rfl):PA X (e::es) (UG X.K (aCons f g)):=(dw h hr hs).weak fun σ H Q aR=>by
 obtain ⟨Z,Θ,env,C,xs,env',C',S,hf,q⟩:=aR
 unfold aCons at hf
 split at hf
 ·rename_i r e1 C1 h1
  split at hf
  ·rename_i ys e2 C2 h2
   cases hf
   refine ⟨Z,Θ,env,C,r,e1,C1,S,h1,fun v H1 k1 f1 R1=>?_⟩
   obtain ⟨S1,a1⟩:=R1.arg
   exact ⟨Z,Θ,e1,C1,ys,env',C',S1,h2,fun vs H2 k2 f2 S2 a2=>q _ H2 (k1.trans k2) (f1.trans f2) S2 (.cons (a1.same (K9 S1 k2 f2)) a2)⟩
  ·cases hf
 ·cases hf
theorem aZ:PA X [] (RK X.K bNil):=jb.weak fun σ H Q aR=>by
 obtain ⟨Z,Θ,env,C,xs,env',C',S,hf,q⟩:=aR
 cases hf
 exact q [] H (bK.refl _ _) (Fz.refl _) S .nil
theorem aM {f:FB} {g:NQ} (h:PE X e (jD X.K f)) (hr:PA X es (RK X.K g)) (hs:starEach (e::es) X.env=(false,eval e X.env)::starEach es X.env:=by rfl):PA X (e::es) (RK X.K (bCons f g)):=(dw h hr hs).weak fun σ H Q aR=>by
 obtain ⟨Z,Θ,env,C,xs,env',C',S,hf,q⟩:=aR
 unfold bCons at hf
 split at hf
 ·rename_i d e1 C1 h1
  split at hf
  ·rename_i ys e2 C2 h2
   cases hf
   exact ⟨Z,Θ,env,C,d,e1,C1,S,h1,fun v H1 k1 f1 S1 b1=>⟨Z,Θ,e1,C1,ys,env',C',S1,h2,fun vs H2 k2 f2 S2 b2=>q _ H2 (k1.trans k2) (f1.trans f2) S2 (.cons (b1.go S1 k2 f2) b2)⟩⟩
  ·cases hf
 ·cases hf
end
noncomputable def allIm:List Vl→Option (List PyData)
 | []=>some []
 | .im d::r=>match allIm r with
  | some ds=>some (d::ds)
  | none=>none
 | _=>none
theorem uH {K:PySem.W.Frag} {E:Hp} {Θ:List Addr}:∀{xs:List Vl} {ds:List PyData} {vs:List V},allIm xs=some ds→gh K E Θ xs vs→dJ E ds vs
 | [],ds,vs,h,a=>by cases h; cases a; rfl
 | .im d::r,ds,vs,h,a=>by
  unfold allIm at h
  split at h
  ·rename_i t ht
   cases h
   cases a with
   | cons a1 a2=>exact ⟨_,_,rfl,a1,uH ht a2⟩
  ·cases h
 | .ow _::r,ds,vs,h,a=>by cases h
 | .ce _::r,ds,vs,h,a=>by cases h
 | .sc _::r,ds,vs,h,a=>by cases h
noncomputable def fLst (g:FA):FE:=fun env C=>match g env C with
 | some (xs,e',C')=>match allIm xs with
  | some ds=>if ds.length≤LIM then some (.ow (.list ds),e',C') else none
  | none=>none
 | none=>none
noncomputable def fTup (g:FA):FE:=fun env C=>match g env C with
 | some (xs,e',C')=>match allIm xs with
  | some ds=>if ds.length≤LIM then some (.im (.tuple ds),e',C') else none
  | none=>none
 | none=>none
section
variable {X:Cx} {e:Expr} {es:List Expr} {pos:Pos}
theorem bW {g:FA} (h:PA X es (UG X.K g)):PE X (.List es pos) (tE X.K (fLst g)):=(TJ h).weak fun σ H Q aR=>by
 obtain ⟨Z,Θ,env,C,r,env',C',S,hf,q⟩:=aR
 unfold fLst at hf
 split at hf
 ·rename_i xs e1 C1 h1
  split at hf
  ·rename_i ds hd
   split at hf
   ·rename_i hl
    cases hf
    refine ⟨Z,Θ,env,C,xs,env',C',S,h1,fun vs H1 k1 f1 S1 a1=>?_⟩
    have r:=uH hd a1
    exact ⟨by rw [bT r]; exact dg hl,fun p hp=>q _ _ (k1.trans (bK.upd hp)) f1 ((dO S1 r hp).from k1)⟩
   ·cases hf
  ·cases hf
 ·cases hf
theorem jh {x1} {g:FA} (h:PA X es (UG X.K g)):PE X (.Tuple es x1 pos) (tE X.K (fTup g)):=(CJ h).weak fun σ H Q aR=>by
 obtain ⟨Z,Θ,env,C,r,env',C',S,hf,q⟩:=aR
 unfold fTup at hf
 split at hf
 ·rename_i xs e1 C1 h1
  split at hf
  ·rename_i ds hd
   split at hf
   ·rename_i hl
    cases hf
    refine ⟨Z,Θ,env,C,xs,env',C',S,h1,fun vs H1 k1 f1 S1 a1=>?_⟩
    have r:=uH hd a1
    exact ⟨by rw [bT r]; exact dg hl,fun p hp=>q _ _ (k1.trans (bK.upd hp)) f1 ((tD S1 r hp).from k1)⟩
   ·cases hf
  ·cases hf
 ·cases hf
noncomputable def uI:FE:=fun env C=>some (.ow (.dict []),env,C)
theorem Bb:PE X (.Dict [] [] pos) (tE X.K uI):=Kg.weak fun σ H Q aR=>by
 obtain ⟨Z,Θ,env,C,r,env',C',S,hf,q⟩:=aR
 cases hf
 exact fun p hp=>q _ _ (bK.upd hp) (Fz.refl _) (PJ (vs:=[]) S (fun _ z=>nomatch z) (.inl ⟨[],rfl,aK⟩) rfl hp)
end
noncomputable def zQ (K:PySem.W.Frag) (r:List V→Hp→VK→Prop) (op:List PyData→Option Vl):Prop:=
 ∀(Z Θ:List Addr) (env:En) (C:Ce) (σ:St) (H:Hp) (xs:List V) (ds:List PyData) (res:Vl),Sm K Z Θ env C σ H→Gj Z Θ env σ H ds xs→op ds=some res→
  ∀Q:VK,(∀v H',bK Θ H H'→Res K Z Θ env C σ H H' res v→Q v H')→r xs H Q
noncomputable def fFun (op:List PyData→Option Vl) (g:NQ):FE:=fun env C=>match g env C with
 | some (ds,e',C')=>match op ds with
  | some r=>some (r,rst r env e',C')
  | none=>none
 | none=>none
theorem Bc {K:PySem.W.Frag} {r:List V→Hp→VK→Prop} {op:List PyData→Option Vl} (L:zQ K r op) {g:NQ}:∀σ H Q,tE K (fFun op g) σ H Q→YL r (RK K g) σ H Q:=by
 rintro σ H Q ⟨Z,Θ,env,C,res,env',C',S,hf,q⟩
 unfold fFun at hf
 split at hf
 ·rename_i ds e1 C1 h1
  split at hf
  ·rename_i r0 h2
   cases hf
   refine ⟨Z,Θ,env,C,ds,e1,C',S,h1,fun vs H1 k1 f1 S1 b1=>L Z Θ e1 C' σ H1 vs ds res S1 b1 h2 Q fun z H2 k2 R=>?_⟩
   exact q z H2 (k1.trans k2) (f1.rst res) ((R.from k1).rst S (k1.trans k2))
  ·cases hf
 ·cases hf
section
variable {X:Cx} {x:Str} {p pos:Pos} {e:Expr} {es:List Expr} {g:NQ} {id T:String} {r:List V→Hp→VK→Prop} {op:List PyData→Option Vl}
theorem bF (hc:cI X (.builtin id) r) (L:zQ X.K r op) (hg:Gl X x) (hm:X.mg x=none) (hv:bootBuiltins x=some (.builtin id)) (ha:PA X (e::es) (RK X.K g)) (hn:x≠"__name__":=by decide) (hdb:(x==("__debug__":Str))=false:=by decide)
  (he:starEach (e::es) X.env=(false,eval e X.env)::starEach es X.env:=by rfl) (hpl:(backTo pos (starEach es X.env)).any (·.1)=false:=by rfl):PE X (.Call (.Name x p) (e::es) [] pos) (tE X.K (fFun op g)):=(oH hc hg hm hv ha hn hdb he hpl).weak (Bc L)
theorem gW (hc:cI X (.type T) r) (L:zQ X.K r op) (hg:Gl X x) (hm:X.mg x=none) (hv:bootBuiltins x=some (.type T)) (ha:PA X (e::es) (RK X.K g)) (hn:x≠"__name__":=by decide) (hdb:(x==("__debug__":Str))=false:=by decide)
  (he:starEach (e::es) X.env=(false,eval e X.env)::starEach es X.env:=by rfl) (hpl:(backTo pos (starEach es X.env)).any (·.1)=false:=by rfl):PE X (.Call (.Name x p) (e::es) [] pos) (tE X.K (fFun op g)):=(HW hc hg hm hv ha hn hdb he hpl).weak (Bc L)
end
noncomputable abbrev FN:=List Vl→Ce→Option (Vl×Ce)
noncomputable def spT (K:PySem.W.Frag) (f:FN):Sp:=fun vs H Q _=>∃Z Θ C xs r C',Sm K Z Θ [] C [] H∧gh K (er (aL Z Θ [] []) H) Θ xs vs∧f xs C=some (r,C')∧
 ∀v H',bK Θ H H'→Res K Z Θ [] C' [] H H' r v→Q v H'
noncomputable def fCal (f:FN) (g:FA):FE:=fun env C=>match g env C with
 | some (xs,e',C1)=>match f xs C1 with
  | some (r,C2)=>some (r,rst r env e',C2)
  | none=>none
 | none=>none
theorem gj {P P':List Addr} {H:Hp} (h:∀a,a∈P ↔ a∈P'):er P H=er P' H:=by
 funext b
 unfold er
 by_cases hb:b∈P
 ·rw [if_pos hb,if_pos ((h b).mp hb)]
 ·rw [if_neg hb,if_neg (fun z=>hb ((h b).mpr z))]
theorem zb {Z Θ:List Addr} {env:En} {σ:St} (a:Addr):a∈aL (Z++aY env σ) Θ [] [] ↔ a∈aL Z Θ env σ:=by
 simp only [aL,aY,List.mem_append,List.append_nil]
 constructor
 ·rintro ((h | h) | h)
  ·exact .inl h
  ·exact .inr (.inr h)
  ·exact .inr (.inl h)
 ·rintro (h | h | h)
  ·exact .inl (.inl h)
  ·exact .inr h
  ·exact .inl (.inr h)
section
variable {K:PySem.W.Frag} {Z Θ:List Addr} {env:En} {C C':Ce} {σ:St} {H H':Hp} {a:Addr}
theorem Sm.Bd (S:Sm K Z Θ env C σ H) (ha:H a=none) (k:bK Θ H H') (h':NT (H' a)) (c:dW Θ C' H'):Sm K (a::Z) Θ env C' σ H':=by
 have sm:aV (er (aL Z Θ env σ) H) (er (aL (a::Z) Θ env σ) H'):=dZ k S.Gi fun b m=>by
  rcases List.mem_cons.mp m with rfl | m
  ·exact .inr ha
  ·exact .inl m
 refine ⟨S.len,List.nodup_cons.mpr ⟨fun m=>S.yO a m ha,S.nd⟩,fun b m=>?_,fun i x e=>?_,c⟩
 ·rcases List.mem_cons.mp m with rfl | m
  ·exact h'
  ·obtain ⟨u,e,n⟩:=S.dom b m
   exact ⟨u,k.keep _ _ e fun z=>by
    have h:=S.nd
    rw [List.nodup_append] at h
    exact h.2.2 b m b (List.mem_append_left _ z) rfl,n⟩
 ·obtain ⟨v,e1,r⟩:=S.slot i x e
  refine ⟨v,e1,r.same sm fun d b ex ev o' ho=>k.keep _ _ ho ?_⟩
  subst ex ev
  exact (S.dX (cu.mpr ⟨i,d,e,e1⟩)).2
theorem Sm.bare (S:Sm K Z Θ env C σ H):Sm K (Z++aY env σ) Θ [] C [] H:=by
 refine ⟨rfl,?_,fun b m=>?_,fun i x e=>by simp at e,S.cell⟩
 ·have h:=S.nd
  show ((Z++aY env σ)++(Θ++[])).Nodup
  rw [List.append_nil,List.append_assoc]
  have p:(Z++(Θ++aY env σ)).Perm (Z++(aY env σ++Θ)):=List.Perm.append_left Z List.perm_append_comm
  exact p.nodup h
 ·rcases List.mem_append.mp m with m | m
  ·exact S.dom b m
  ·exact S.XR b (List.mem_append_right _ (List.mem_append_right _ m))
theorem Res.back {r:Vl} {v:V} (S:Sm K Z Θ env C σ H) (k:bK Θ H H') (h:Res K (Z++aY env σ) Θ [] C' [] H H' r v):Res K Z Θ env C' σ H H' r v:=by
 have e1:er (aL (Z++aY env σ) Θ [] []) H'=er (aL Z Θ env σ) H':=gj zb
 cases r with
 | im d=>
  obtain ⟨S',r⟩:=h
  rw [e1] at r
  exact ⟨S.go k S'.cell,r⟩
 | ow d=>
  obtain ⟨a,rfl,hn,S',r⟩:=h
  have e2:er (aL (a::(Z++aY env σ)) Θ [] []) H'=er (aL (a::Z) Θ env σ) H':=gj fun b=>by
   show b∈a::aL (Z++aY env σ) Θ [] [] ↔ b∈a::aL Z Θ env σ
   rw [List.mem_cons,List.mem_cons,zb]
  rw [e2] at r
  exact ⟨a,rfl,hn,S.Bd hn k (S'.dom a List.mem_cons_self) S'.cell,r⟩
 | ce n=>exact ⟨S.go k h.1.cell,h.2⟩
 | sc ns=>
  obtain ⟨S',a,rfl,q⟩:=h
  rw [e1] at q
  exact ⟨S.go k S'.cell,a,rfl,q⟩
end
section
variable {X:Cx} {x:Str} {k:Nat} {ps:List Str} {p pos:Pos} {e:Expr} {es:List Expr} {f:FN} {g:FA}
theorem Lp {K:PySem.W.Frag}:∀σ H Q,tE K (fCal f g) σ H Q→J7 (spT K f) [] E0 (UG K g) σ H Q:=by
 rintro σ H Q ⟨Z,Θ,env,C,res,env',C',S,hf,q⟩
 unfold fCal at hf
 split at hf
 ·rename_i xs e1 C1 h1
  split at hf
  ·rename_i r C2 h2
   cases hf
   refine ⟨Z,Θ,env,C,xs,e1,C1,S,h1,fun vs H1 k1 f1 S1 a1=>?_⟩
   show spT K f (vs++[]) H1 Q E0
   rw [List.append_nil]
   have e2:er (aL (Z++aY e1 σ) Θ [] []) H1=er (aL Z Θ e1 σ) H1:=gj zb
   rw [←e2] at a1
   exact ⟨Z++aY e1 σ,Θ,C1,xs,res,C',S1.bare,a1,h2,fun v H2 k2 R=>q v H2 (k1.trans k2) (f1.rst res) (((R.back S1 k2).from k1).rst S (k1.trans k2))⟩
  ·cases hf
 ·cases hf
theorem aW (F:jc X.prog X.w X.K X.mg X.base x k ps (spT X.K f)) (hr:fB k X.A) (hg:Gl X x) (ha:PA X (e::es) (UG X.K g)) (hdb:(x==("__debug__":Str))=false:=by decide)
  (he:starEach (e::es) X.env=(false,eval e X.env)::starEach es X.env:=by rfl) (hpl:(backTo pos (starEach es X.env)).any (·.1)=false:=by rfl):PE X (.Call (.Name x p) (e::es) [] pos) (tE X.K (fCal f g)):=(Wo F hr hg ha hdb he hpl).weak Lp
end
end L2
namespace L2
open PySem PySem.Spec PyProof.Rows PySem.W
theorem qI:∀{env:En} {σ:St},(∀(i j:Nat) (d e:PyData) (a:Addr),env[i]?=some (some (Vl.ow d))→σ[i]?=some (some (V.ref a))→env[j]?=some (some (Vl.ow e))→σ[j]?=some (some (V.ref a))→i=j)→(aY env σ).Nodup
 | [],σ,_=>by cases σ <;> exact List.nodup_nil
 | _::_,[],_=>List.nodup_nil
 | x::en,v::s,h=>by
  rw [aY,List.nodup_append]
  refine ⟨?_,qI fun i j d e a h1 h2 h3 h4=>?_,fun a ha b hb e=>?_⟩
  ·unfold own1
   split
   ·exact List.nodup_cons.mpr ⟨by simp,List.nodup_nil⟩
   ·exact List.nodup_nil
  ·have:=h (i + 1) (j + 1) d e a (by simpa using h1) (by simpa using h2) (by simpa using h3) (by simpa using h4)
   omega
  ·subst e
   unfold own1 at ha
   split at ha
   ·rw [List.mem_singleton] at ha
    subst ha
    obtain ⟨j,d,h1,h2⟩:=cu.mp hb
    have:=h 0 (j + 1) _ d a rfl rfl (by simpa using h1) (by simpa using h2)
    omega
   ·simp at ha
theorem get_set {α:Type} {l:List α} {i j:Nat} {x y:α} (h:(l.set i x)[j]?=some y):(j=i∧y=x∧i < l.length)∨(j≠i∧l[j]?=some y):=by
 by_cases e:i=j
 ·subst e
  rw [List.getElem?_set,if_pos rfl] at h
  split at h
  ·rename_i hl; cases h; exact .inl ⟨rfl,rfl,hl⟩
  ·cases h
 ·rw [List.getElem?_set_ne e] at h
  exact .inr ⟨fun z=>e z.symm,h⟩
theorem Gv {α:Type} {l:List α} {i:Nat} {x:α} (h:i < l.length):(l.set i x)[i]?=some x:=by
 rw [List.getElem?_set,if_pos rfl,if_pos h]
theorem jE {env:En} {σ:St} {i:Nat} {x:Vl} {v:V} {a:Addr} (h:a∈aY (env.set i (some x)) (σ.set i (some v))):a∈aY env σ∨(∃d,x=.ow d)∧v=.ref a:=by
 obtain ⟨j,d,h1,h2⟩:=cu.mp h
 rcases get_set h1 with ⟨rfl,e,_⟩ | ⟨n,h1⟩
 ·rcases get_set h2 with ⟨_,e2,_⟩ | ⟨n,_⟩
  ·cases e; cases e2; exact .inr ⟨⟨d,rfl⟩,rfl⟩
  ·exact absurd rfl n
 ·rcases get_set h2 with ⟨e,_,_⟩ | ⟨_,h2⟩
  ·exact absurd e n
  ·exact .inl (cu.mpr ⟨j,d,h1,h2⟩)
section
variable {K:PySem.W.Frag} {Z Θ:List Addr} {env:En} {C:Ce} {σ:St} {H:Hp} {a:Addr} {i:Nat} {v:V}
theorem Sm.iD (S:Sm K Z Θ env C σ H):Z.Nodup∧Θ.Nodup∧(aY env σ).Nodup∧(∀b∈Z,b∉Θ):=by
 have h:=S.nd
 rw [List.nodup_append,List.nodup_append] at h
 obtain ⟨h1,⟨h2,h3,_⟩,h4⟩:=h
 exact ⟨h1,h2,h3,fun b m m'=>h4 b m b (List.mem_append_left _ m') rfl⟩
theorem UJ {Z Θ O:List Addr} (h1:Z.Nodup) (h2:Θ.Nodup) (h3:O.Nodup) (h4:∀b∈Z,b∉Θ) (h5:∀b∈O,b∉Z∧b∉Θ):(Z++(Θ++O)).Nodup:=by
 rw [List.nodup_append,List.nodup_append]
 refine ⟨h1,⟨h2,h3,fun b m c m' e=>?_⟩,fun b m c m' e=>?_⟩
 ·subst e; exact (h5 b m').2 m
 ·subst e
  rcases List.mem_append.mp m' with m' | m'
  ·exact h4 b m m'
  ·exact (h5 b m').1 m
theorem Sm.Jf (S:Sm K Z Θ env C σ H) {x:Vl} (hx:∀d,x≠.ow d) (r:I9 K (er (aL Z Θ env σ) H) H Θ x v):Sm K Z Θ (env.set i (some x)) C (σ.set i (some v)) H:=by
 have sub:∀b,b∈aY (env.set i (some x)) (σ.set i (some v))→b∈aY env σ:=fun b m=>by
  rcases jE m with m | ⟨⟨d,e⟩,_⟩
  ·exact m
  ·exact absurd e (hx d)
 have iD:=S.iD
 have sm:aV (er (aL Z Θ env σ) H) (er (aL Z Θ (env.set i (some x)) (σ.set i (some v))) H):=jf fun b m=>by
  rcases List.mem_append.mp m with m | m
  ·exact List.mem_append_left _ m
  ·rcases List.mem_append.mp m with m | m
   ·exact List.mem_append_right _ (List.mem_append_left _ m)
   ·exact List.mem_append_right _ (List.mem_append_right _ (sub b m))
 refine ⟨by rw [List.length_set,List.length_set]; exact S.len,?_,S.dom,fun j y e=>?_,S.cell⟩
 ·refine UJ iD.1 iD.2.1 (qI fun p q d e b h1 h2 h3 h4=>?_) iD.2.2.2 fun b m=>S.dX (sub b m)
  rcases get_set h1 with ⟨rfl,e1,_⟩ | ⟨n1,h1⟩
  ·cases e1; exact absurd rfl (hx d)
  ·rcases get_set h3 with ⟨rfl,e1,_⟩ | ⟨n2,h3⟩
   ·cases e1; exact absurd rfl (hx e)
   ·rcases get_set h2 with ⟨e2,_,_⟩ | ⟨_,h2⟩
    ·exact absurd e2 n1
    ·rcases get_set h4 with ⟨e4,_,_⟩ | ⟨_,h4⟩
     ·exact absurd e4 n2
     ·exact oY iD.2.2.1 h1 h2 h3 h4
 ·rcases get_set e with ⟨rfl,e1,hl⟩ | ⟨n,e⟩
  ·cases e1
   exact ⟨v,Gv (by rw [S.len]; exact hl),r.same sm fun d b ex _=>absurd ex (hx d)⟩
  ·obtain ⟨u,e1,r1⟩:=S.slot j y e
   exact ⟨u,by rw [List.getElem?_set_ne (Ne.symm n)]; exact e1,r1.same sm fun _ _ _ _ _ h=>h⟩
theorem Sm.W2 (S:Sm K (a::Z) Θ env C σ H) {d:PyData} (r:lz (er (aL (a::Z) Θ env σ) H) H a d):Sm K Z Θ (env.set i (some (.ow d))) C (σ.set i (some (.ref a))) H:=by
 have sub:∀b,b∈aY (env.set i (some (.ow d))) (σ.set i (some (.ref a)))→b∈aY env σ∨b=a:=fun b m=>by
  rcases jE m with m | ⟨_,e⟩
  ·exact .inl m
  ·cases e; exact .inr rfl
 have iD:=S.iD
 have W3:=List.nodup_cons.mp iD.1
 have sm:aV (er (aL (a::Z) Θ env σ) H) (er (aL Z Θ (env.set i (some (.ow d))) (σ.set i (some (.ref a)))) H):=jf fun b m=>by
  rcases List.mem_append.mp m with m | m
  ·exact List.mem_append_left _ (List.mem_cons_of_mem _ m)
  ·rcases List.mem_append.mp m with m | m
   ·exact List.mem_append_right _ (List.mem_append_left _ m)
   ·rcases sub b m with m | rfl
    ·exact List.mem_append_right _ (List.mem_append_right _ m)
    ·exact List.mem_append_left _ List.mem_cons_self
 have W4:a∉aY env σ:=fun m=>(S.dX m).1 List.mem_cons_self
 refine ⟨by rw [List.length_set,List.length_set]; exact S.len,?_,fun b m=>S.dom b (List.mem_cons_of_mem _ m),fun j y e=>?_,S.cell⟩
 ·refine UJ W3.2 iD.2.1 (qI fun p q d1 e b h1 h2 h3 h4=>?_) (fun b m=>iD.2.2.2 b (List.mem_cons_of_mem _ m)) fun b m=>?_
  ·rcases get_set h1 with ⟨rfl,e1,_⟩ | ⟨n1,h1⟩
   ·rcases get_set h3 with ⟨e3,_,_⟩ | ⟨n2,h3⟩
    ·exact e3.symm
    ·rcases get_set h2 with ⟨_,e2,_⟩ | ⟨n,_⟩
     ·cases e2
      rcases get_set h4 with ⟨e4,_,_⟩ | ⟨_,h4⟩
      ·exact e4.symm
      ·exact absurd (cu.mpr ⟨q,e,h3,h4⟩) W4
     ·exact absurd rfl n
   ·rcases get_set h2 with ⟨e2,_,_⟩ | ⟨_,h2'⟩
    ·exact absurd e2 n1
    ·have mp:=cu.mpr ⟨p,d1,h1,h2'⟩
     rcases get_set h3 with ⟨rfl,e3,_⟩ | ⟨n2,h3⟩
     ·rcases get_set h4 with ⟨_,e4,_⟩ | ⟨n,_⟩
      ·cases e4
       exact absurd mp W4
      ·exact absurd rfl n
     ·rcases get_set h4 with ⟨e4,_,_⟩ | ⟨_,h4⟩
      ·exact absurd e4 n2
      ·exact oY iD.2.2.1 h1 h2' h3 h4
  ·rcases sub b m with m | rfl
   ·obtain ⟨p,q⟩:=S.dX m
    exact ⟨fun z=>p (List.mem_cons_of_mem _ z),q⟩
   ·exact ⟨W3.1,iD.2.2.2 b List.mem_cons_self⟩
 ·rcases get_set e with ⟨rfl,e1,hl⟩ | ⟨n,e⟩
  ·cases e1
   exact ⟨_,Gv (by rw [S.len]; exact hl),a,rfl,r.same sm fun _ h=>h⟩
  ·obtain ⟨u,e1,r1⟩:=S.slot j y e
   exact ⟨u,by rw [List.getElem?_set_ne (Ne.symm n)]; exact e1,r1.same sm fun _ _ _ _ _ h=>h⟩
theorem Res.set {H0:Hp} {r:Vl} (h:Res K Z Θ env C σ H0 H r v):Sm K Z Θ (env.set i (some r)) C (σ.set i (some v)) H:=by
 cases r with
 | im d=>exact h.1.Jf (fun _ e=>nomatch e) h.2
 | ow d=>obtain ⟨a,rfl,_,S,r⟩:=h; exact S.W2 r
 | ce n=>exact h.1.Jf (fun _ e=>nomatch e) h.2
 | sc ns=>exact h.1.Jf (fun _ e=>nomatch e) h.2
end
inductive Fl where
 | nx | rt (r:Vl) | bk | ct
noncomputable abbrev FS:=En→Ce→Option (Fl×En×Ce)
structure zc (Θ Θ':List Addr) (H:Hp):Prop where
 ex:∃Δ,Θ'=Θ++Δ∧∀a∈Δ,H a=none
theorem zc.refl (Θ:List Addr) (H:Hp):zc Θ Θ H:=⟨[],by rw [List.append_nil],fun _ m=>nomatch m⟩
structure iH (K:PySem.W.Frag) (Z Θ:List Addr) (env:En) (σ:St) (H:Hp) (Θ':List Addr) (env':En) (C':Ce) (σ':St) (H':Hp):Prop where
 th:zc Θ Θ' H
 kp:bK (Θ++aY env σ) H H'
 own:∀a∈aY env' σ',a∈aY env σ∨H a=none
 sm:Sm K Z Θ' env' C' σ' H'
noncomputable def Gw (K:PySem.W.Frag) (Z Θ:List Addr) (C:Ce) (own:List Addr) (H H':Hp):Vl→V→Prop
 | .im d,v=>Sm K Z Θ [] C [] H'∧RZ (er (aL Z Θ [] []) H') d v
 | .ow d,v=>∃a,v=.ref a∧(a∈own∨H a=none)∧Sm K (a::Z) Θ [] C [] H'∧lz (er (aL (a::Z) Θ [] []) H') H' a d
 | .ce n,v=>Sm K Z Θ [] C [] H'∧∃a,v=.ref a∧Θ[n]?=some a
 | .sc ns,v=>Sm K Z Θ [] C [] H'∧∃a,v=.ref a∧cJ K (er (aL Z Θ [] []) H') a (ns.map V.int)
structure Zf (K:PySem.W.Frag) (Z Θ:List Addr) (env:En) (σ:St) (H:Hp) (Θ':List Addr) (C':Ce) (r:Vl) (v:V) (H':Hp):Prop where
 th:zc Θ Θ' H
 kp:bK (Θ++aY env σ) H H'
 ok:Gw K Z Θ' C' (aY env σ) H H' r v
noncomputable def Qa (K:PySem.W.Frag) (Z Θ:List Addr) (env:En) (σ:St) (H:Hp) (env':En) (C':Ce) (D:Ends):Fl→Prop
 | .nx=>∀Θ' σ' H',iH K Z Θ env σ H Θ' env' C' σ' H'→D.nx σ' H'
 | .bk=>∀Θ' σ' H',iH K Z Θ env σ H Θ' env' C' σ' H'→D.bk σ' H'
 | .ct=>∀Θ' σ' H',iH K Z Θ env σ H Θ' env' C' σ' H'→D.ct σ' H'
 | .rt r=>∀Θ' v H',Zf K Z Θ env σ H Θ' C' r v H'→D.rt v H'
noncomputable def tS (K:PySem.W.Frag) (f:FS):TS:=fun D σ H=>∃Z Θ env C fl env' C',Sm K Z Θ env C σ H∧f env C=some (fl,env',C')∧Qa K Z Θ env σ H env' C' D fl
section
variable {K:PySem.W.Frag} {Z Θ Θ1 Θ2:List Addr} {env e1 e2:En} {C C1 C2:Ce} {σ σ1 σ2:St} {H H1 H2:Hp}
theorem zc.trans (h:zc Θ Θ1 H) (k:∀a,H a≠none→H1 a≠none) (g:zc Θ1 Θ2 H1):zc Θ Θ2 H:=by
 obtain ⟨Δ,e,n⟩:=h.ex
 obtain ⟨Δ',e',n'⟩:=g.ex
 refine ⟨Δ++Δ',by rw [e',e,List.append_assoc],fun a m=>?_⟩
 rcases List.mem_append.mp m with m | m
 ·exact n a m
 ·cases h:H a with
  | none=>rfl
  | some o=>exact absurd (n' a m) (k a (by rw [h]; exact Option.some_ne_none _))
theorem Be (th:zc Θ Θ1 H) (k1:bK (Θ++aY env σ) H H1) (ow:∀a∈aY e1 σ1,a∈aY env σ∨H a=none) (k2:bK (Θ1++aY e1 σ1) H1 H2):bK (Θ++aY env σ) H H2:=by
 refine ⟨fun a o e n=>k2.keep a o (k1.keep a o e n) fun m=>n ?_,fun a e=>k2.dom a (k1.dom a e)⟩
 have hn:H a≠none:=by rw [e]; exact Option.some_ne_none _
 rcases List.mem_append.mp m with m | m
 ·obtain ⟨Δ,e',n'⟩:=th.ex
  rw [e'] at m
  rcases List.mem_append.mp m with m | m
  ·exact List.mem_append_left _ m
  ·exact absurd (n' a m) hn
 ·rcases ow a m with m | m
  ·exact List.mem_append_right _ m
  ·exact absurd m hn
theorem iH.trans (p:iH K Z Θ env σ H Θ1 e1 C1 σ1 H1) (q:iH K Z Θ1 e1 σ1 H1 Θ2 e2 C2 σ2 H2):iH K Z Θ env σ H Θ2 e2 C2 σ2 H2 where
 th:=p.th.trans p.kp.dom q.th
 kp:=Be p.th p.kp p.own q.kp
 own:=fun a m=>by
  rcases q.own a m with m | m
  ·exact p.own a m
  ·exact .inr (p.kp.none m)
 sm:=q.sm
theorem iH.ret {r:Vl} {v:V} (p:iH K Z Θ env σ H Θ1 e1 C1 σ1 H1) (q:Zf K Z Θ1 e1 σ1 H1 Θ2 C2 r v H2):Zf K Z Θ env σ H Θ2 C2 r v H2 where
 th:=p.th.trans p.kp.dom q.th
 kp:=Be p.th p.kp p.own q.kp
 ok:=by
  have h:=q.ok
  cases r with
  | im d=>exact h
  | ow d=>
   obtain ⟨a,e,m,S,r⟩:=h
   refine ⟨a,e,?_,S,r⟩
   rcases m with m | m
   ·exact p.own a m
   ·exact .inr (p.kp.none m)
  | ce n=>exact h
  | sc ns=>exact h
theorem Qa.trans {D:Ends} {fl:Fl} (p:iH K Z Θ env σ H Θ1 e1 C1 σ1 H1) (h:Qa K Z Θ env σ H e2 C2 D fl):Qa K Z Θ1 e1 σ1 H1 e2 C2 D fl:=by
 cases fl with
 | nx=>exact fun Θ' σ' H' q=>h Θ' σ' H' (p.trans q)
 | bk=>exact fun Θ' σ' H' q=>h Θ' σ' H' (p.trans q)
 | ct=>exact fun Θ' σ' H' q=>h Θ' σ' H' (p.trans q)
 | rt r=>exact fun Θ' v H' q=>h Θ' v H' (p.ret q)
theorem jF {O:List Addr} (k:bK Θ H H1):bK (Θ++O) H H1:=⟨fun a o e n=>k.keep a o e fun m=>n (List.mem_append_left _ m),k.dom⟩
theorem iH.Gx (k:bK Θ H H1) (f:Fz env e1) (S:Sm K Z Θ e1 C1 σ H1):iH K Z Θ env σ H Θ e1 C1 σ H1:=
 ⟨zc.refl _ _,jF k,fun a m=>.inl (f.own.subset m),S⟩
end
noncomputable def fNext:FS:=fun env C=>some (.nx,env,C)
noncomputable def fSeq (f g:FS):FS:=fun env C=>match f env C with
 | some (.nx,e1,C1)=>g e1 C1
 | r=>r
noncomputable def j7 (c:FT) (f g:FS):FS:=fun env C=>match c env C with
 | some (true,C1)=>f env C1
 | some (false,C1)=>g env C1
 | none=>none
noncomputable def fRet (f:FE):FS:=fun env C=>match f env C with
 | some (r,e1,C1)=>some (.rt r,e1,C1)
 | none=>none
noncomputable def fRetV (i:Nat):FS:=fun env C=>match env[i]? with
 | some (some x)=>some (.rt x,env,C)
 | _=>none
noncomputable def fSet (i:Nat) (f:FE):FS:=fun env C=>match f env C with
 | some (r,e1,C1)=>some (.nx,e1.set i (some r),C1)
 | none=>none
section
variable {X:Cx} {st:Stmt} {rest:List Stmt} {pos:Pos}
theorem iH.same {K:PySem.W.Frag} {Z Θ:List Addr} {env:En} {C:Ce} {σ:St} {H:Hp} (S:Sm K Z Θ env C σ H):iH K Z Θ env σ H Θ env C σ H:=iH.Gx (bK.refl _ _) (Fz.refl _) S
theorem gk:sJ X [] (tS X.K fNext):=Oh.weak fun D σ H aR=>by
 obtain ⟨Z,Θ,env,C,fl,env',C',S,hf,q⟩:=aR
 cases hf
 exact q Θ σ H (iH.same S)
theorem aX {f:FS} (h:PS X st (tS X.K f)):sJ X [st] (tS X.K f):=Oi h
theorem Lq {K:PySem.W.Frag} {f g:FS}:∀D σ H,tS K (fSeq f g) D σ H→VL (tS K f) (tS K g) D σ H:=by
 rintro D σ H ⟨Z,Θ,env,C,fl,env',C',S,hf,q⟩
 unfold fSeq at hf
 split at hf
 ·rename_i e1 C1 h1
  exact ⟨Z,Θ,env,C,.nx,e1,C1,S,h1,fun Θ1 σ1 H1 p=>⟨Z,Θ1,e1,C1,fl,env',C',p.sm,hf,q.trans p⟩⟩
 ·rename_i hne
  refine ⟨Z,Θ,env,C,fl,env',C',S,hf,?_⟩
  cases fl with
  | nx=>exact absurd hf (hne _ _)
  | bk=>exact q
  | ct=>exact q
  | rt r=>exact q
theorem aD {f g:FS} (h:PS X st (tS X.K f)) (hr:sJ X rest (tS X.K g)):sJ X (st::rest) (tS X.K (fSeq f g)):=(JQ h hr).weak Lq
theorem jZ {c:Expr} {a b:List Stmt} {t:FT} {f g:FS} (hc:PT X c (kh X.K t)) (ha:sJ X a (tS X.K f)) (hb:sJ X b (tS X.K g)):PS X (.If c a b pos) (tS X.K (j7 t f g)):=(VN hc ha hb).weak fun D σ H aR=>by
 obtain ⟨Z,Θ,env,C,fl,env',C',S,hf,q⟩:=aR
 unfold j7 at hf
 split at hf
 ·rename_i C1 h1
  exact ⟨Z,Θ,env,C,true,C1,S,h1,fun H1 k1 S1=>vX ⟨Z,Θ,env,C1,fl,env',C',S1,hf,q.trans (iH.Gx k1 (Fz.refl _) S1)⟩⟩
 ·rename_i C1 h1
  exact ⟨Z,Θ,env,C,false,C1,S,h1,fun H1 k1 S1=>vW ⟨Z,Θ,env,C1,fl,env',C',S1,hf,q.trans (iH.Gx k1 (Fz.refl _) S1)⟩⟩
 ·cases hf
theorem Sm.none {K:PySem.W.Frag} {Z Θ:List Addr} {env:En} {C:Ce} {σ:St} {H:Hp} (S:Sm K Z Θ env C σ H):Sm K Z Θ [] C [] H:=by
 have iD:=S.iD
 exact ⟨rfl,UJ iD.1 iD.2.1 List.nodup_nil iD.2.2.2 (fun _ m=>nomatch m),S.dom,fun i x e=>by simp at e,S.cell⟩
theorem lD {Z Θ:List Addr} {env:En} {σ:St} {H:Hp}:aV (er (aL Z Θ env σ) H) (er (aL Z Θ [] []) H):=jf fun b m=>by
 rcases List.mem_append.mp m with m | m
 ·exact List.mem_append_left _ m
 ·rcases List.mem_append.mp m with m | m
  ·exact List.mem_append_right _ (List.mem_append_left _ m)
  ·nomatch m
theorem Res.ret {K:PySem.W.Frag} {Z Θ:List Addr} {env:En} {C:Ce} {σ:St} {H H':Hp} {O:List Addr} {r:Vl} {v:V} (h:Res K Z Θ env C σ H H' r v):Gw K Z Θ C O H H' r v:=by
 cases r with
 | im d=>exact ⟨h.1.none,h.2.same lD⟩
 | ow d=>obtain ⟨a,e,n,S,r⟩:=h; exact ⟨a,e,.inr n,S.none,r.same lD fun _ h=>h⟩
 | ce n=>exact ⟨h.1.none,h.2⟩
 | sc ns=>obtain ⟨S,a,e,q⟩:=h; exact ⟨S.none,a,e,lD.seq q⟩
theorem cP {e:Expr} {f:FE} (h:PE X e (tE X.K f)):PS X (.Return (some e) pos) (tS X.K (fRet f)):=(JR h).weak fun D σ H aR=>by
 obtain ⟨Z,Θ,env,C,fl,env',C',S,hf,q⟩:=aR
 unfold fRet at hf
 split at hf
 ·rename_i r e1 C1 h1
  cases hf
  exact ⟨Z,Θ,env,C,r,env',C',S,h1,fun v H1 k f R=>q Θ v H1 ⟨zc.refl _ _,jF k,R.ret⟩⟩
 ·cases hf
theorem mL {e:Expr} {i:Nat} (h:PE X e (tW i)):PS X (.Return (some e) pos) (tS X.K (fRetV i)):=(JR h).weak fun D σ H aR=>by
 obtain ⟨Z,Θ,env,C,fl,env',C',S,hf,q⟩:=aR
 unfold fRetV at hf
 split at hf
 ·rename_i x hx
  cases hf
  obtain ⟨v,e1,r⟩:=S.slot i x hx
  refine ⟨v,e1,q Θ v H ⟨zc.refl _ _,bK.refl _ _,?_⟩⟩
  cases x with
  | im d=>exact ⟨S.none,RZ.same lD r⟩
  | ow d=>
   obtain ⟨a,rfl,r⟩:=r
   have m:a∈aY env σ:=cu.mpr ⟨i,d,hx,e1⟩
   have sm:aV (er (aL Z Θ env σ) H) (er (aL (a::Z) Θ [] []) H):=jf fun b mb=>by
    rcases List.mem_append.mp mb with mb | mb
    ·rcases List.mem_cons.mp mb with rfl | mb
     ·exact List.mem_append_right _ (List.mem_append_right _ m)
     ·exact List.mem_append_left _ mb
    ·rcases List.mem_append.mp mb with mb | mb
     ·exact List.mem_append_right _ (List.mem_append_left _ mb)
     ·nomatch mb
   have iD:=S.iD
   refine ⟨a,rfl,.inl m,⟨rfl,UJ (List.nodup_cons.mpr ⟨(S.dX m).1,iD.1⟩) iD.2.1 List.nodup_nil (fun b mb=>?_) (fun _ m=>nomatch m),fun b mb=>?_,fun i x e=>by simp at e,S.cell⟩,r.same sm fun _ h=>h⟩
   ·rcases List.mem_cons.mp mb with rfl | mb
    ·exact (S.dX m).2
    ·exact iD.2.2.2 b mb
   ·rcases List.mem_cons.mp mb with rfl | mb
    ·exact r.nt
    ·exact S.dom b mb
  | ce n=>exact ⟨S.none,r⟩
  | sc ns=>obtain ⟨a,e,q⟩:=r; exact ⟨S.none,a,e,lD.seq q⟩
 ·cases hf
theorem uJ {K:PySem.W.Frag} {i:Nat} {t:TE} {f:FE} (w:∀σ H Q,tE K f σ H Q→t σ H Q):∀D σ H,tS K (fSet i f) D σ H→HB t (rA i) D σ H:=by
 rintro D σ H ⟨Z,Θ,env,C,fl,env',C',S,hf,q⟩
 unfold fSet at hf
 split at hf
 ·rename_i r e1 C1 h1
  cases hf
  refine w _ _ _ ⟨Z,Θ,env,C,r,e1,C',S,h1,fun v H1 k f R=>q Θ _ H1 ⟨zc.refl _ _,jF k,fun a m=>?_,R.set⟩⟩
  rcases jE m with m | ⟨⟨d,e⟩,e2⟩
  ·exact .inl (f.own.subset m)
  ·subst e
   obtain ⟨b,e3,n,_⟩:=R
   rw [e2] at e3
   cases e3
   exact .inr n
 ·cases hf
theorem bY {i:Nat} {x:Str} {e:Expr} {f:FE} {pos':Pos} (hN:X.N.Nodup) (hi:X.N[i]?=some x) (hx:Loc X.env.scope x) (he:PE X e (tE X.K f)) (hs:swapsWith e (some (.Name x pos')) pos.line X.env=pure false:=by rfl) (hf:X.fn x=true∨X.env.scope.names.lookup x=some .local:=by first | exact .inl rfl | exact .inr rfl | assumption):
  PS X (.Assign [.Name x pos'] e pos) (tS X.K (fSet i f)):=(JV hN hi hx he hs hf).weak (uJ fun _ _ _ h=>h)
end
end L2
namespace L2
open PySem PySem.Spec PyProof.Rows PySem.W
noncomputable abbrev FG:=PyData→En→Option En
noncomputable abbrev UL:=List PyData→En→Option En
noncomputable def Vu (K:PySem.W.Frag) (g:TG) (fg:FG):Prop:=∀(Z Θ:List Addr) (env:En) (C:Ce) (σ:St) (H:Hp) (v:V) (d:PyData) (env':En),Sm K Z Θ env C σ H→RZ (er (aL Z Θ env σ) H) d v→fg d env=some env'→
 ∀Q:St→Hp→Prop,(∀σ',Sm K Z Θ env' C σ' H→(∀a∈aY env' σ',a∈aY env σ)→Q σ' H)→g v σ H Q
noncomputable def Qc (K:PySem.W.Frag) (g:JS) (fg:UL):Prop:=∀(Z Θ:List Addr) (env:En) (C:Ce) (σ:St) (H:Hp) (vs:List V) (ds:List PyData) (env':En),Sm K Z Θ env C σ H→dJ (er (aL Z Θ env σ) H) ds vs→fg ds env=some env'→
 ∀Q:St→Hp→Prop,(∀σ',Sm K Z Θ env' C σ' H→(∀a∈aY env' σ',a∈aY env σ)→Q σ' H)→g vs σ H Q
noncomputable def gNm (i:Nat):FG:=fun d env=>some (env.set i (some (.im d)))
noncomputable def gsNil:UL:=fun ds env=>match ds with
 | []=>some env
 | _=>none
noncomputable def gsCons (g:FG) (u:UL):UL:=fun ds env=>match ds with
 | d::r=>match g d env with
  | some e1=>u r e1
  | none=>none
 | []=>none
noncomputable def gTp (n:Nat) (u:UL):FG:=fun d env=>match d with
 | .tuple ds=>if ds.length=n then u ds env else none
 | _=>none
theorem Lr {Z Θ:List Addr} {env e1:En} {σ σ1:St} {H:Hp} (h:∀a∈aY e1 σ1,a∈aY env σ):aV (er (aL Z Θ env σ) H) (er (aL Z Θ e1 σ1) H):=jf fun b m=>by
 rcases List.mem_append.mp m with m | m
 ·exact List.mem_append_left _ m
 ·rcases List.mem_append.mp m with m | m
  ·exact List.mem_append_right _ (List.mem_append_left _ m)
  ·exact List.mem_append_right _ (List.mem_append_right _ (h b m))
section
variable {K:PySem.W.Frag}
theorem cM {i:Nat}:Vu K (rA i) (gNm i):=by
 intro Z Θ env C σ H v d env' S r e Q q
 cases e
 refine q _ (S.Jf (fun _ z=>nomatch z) r) fun a m=>?_
 rcases jE m with m | ⟨⟨_,z⟩,_⟩
 ·exact m
 ·cases z
theorem Gy:Qc K Te gsNil:=by
 intro Z Θ env C σ H vs ds env' S r e Q q
 unfold gsNil at e
 split at e
 ·cases e
  exact ⟨r,q _ S fun _ m=>m⟩
 ·cases e
theorem pB {g:TG} {u:JS} {fg:FG} {fu:UL} (h:Vu K g fg) (hu:Qc K u fu):Qc K (JT g u) (gsCons fg fu):=by
 intro Z Θ env C σ H vs ds env' S r e Q q
 unfold gsCons at e
 split at e
 ·rename_i d r'
  obtain ⟨v,ws,rfl,r1,r2⟩:=r
  split at e
  ·rename_i e1 h1
   refine ⟨v,ws,rfl,h Z Θ env C σ H v d e1 S r1 h1 _ fun σ1 S1 o1=>?_⟩
   exact hu Z Θ e1 C σ1 H ws r' env' S1 (r2.same (Lr o1)) e Q fun σ2 S2 o2=>q σ2 S2 fun a m=>o1 a (o2 a m)
  ·cases e
 ·cases e
theorem Ls {n:Nat} {u:JS} {fu:UL} (hu:Qc K u fu):Vu K (Tf K n u) (gTp n fu):=by
 intro Z Θ env C σ H v d env' S r e Q q
 unfold gTp at e
 split at e
 ·rename_i ds
  split at e
  ·rename_i hl
   obtain ⟨a,vs,rfl,ha,r⟩:=r
   exact ⟨a,vs,rfl,gw.of (bL ha),(bT r).trans hl,hu Z Θ env C σ H vs ds env' S r e Q q⟩
  ·cases e
 ·cases e
end
noncomputable def fUnp (f:FE) (g:FG):FS:=fun env C=>match f env C with
 | some (r,e1,C1)=>match still r with
  | .im d=>match g d e1 with
   | some e2=>some (.nx,e2,C1)
   | none=>none
  | _=>none
 | none=>none
theorem Res.lE {K:PySem.W.Frag} {Z Θ:List Addr} {env:En} {C:Ce} {σ:St} {H H':Hp} {r:Vl} {v:V} {d:PyData} (h:Res K Z Θ env C σ H H' r v) (e:L2.still r=.im d):Sm K Z Θ env C σ H'∧RZ (er (aL Z Θ env σ) H') d v:=by
 have g:=h.still
 rw [e] at g
 exact g
section
variable {X:Cx} {pos:Pos}
theorem UT {tg e:Expr} {f:FE} {g:TG} {fg:FG} (he:PE X e (tE X.K f)) (hg:PG X tg g) (L:Vu X.K g fg) (hs:swapsWithSole [tg] e pos.line X.env=pure false:=by rfl) (hw:swappedStores [tg] e X.env=pure none:=by rfl) (h1:(assignEach [tg] X.env).map (·.2)=[assign tg X.env]:=by rfl):
  PS X (.Assign [tg] e pos) (tS X.K (fUnp f fg)):=(Cp he hg hs hw h1).weak fun D σ H aR=>by
 obtain ⟨Z,Θ,env,C,fl,env',C',S,hf,q⟩:=aR
 unfold fUnp at hf
 split at hf
 ·rename_i r e1 C1 h1
  split at hf
  ·rename_i d hd
   split at hf
   ·rename_i e2 h2
    cases hf
    refine ⟨Z,Θ,env,C,r,e1,C',S,h1,fun v H1 k f R=>?_⟩
    obtain ⟨S1,r1⟩:=R.lE hd
    exact L Z Θ e1 C' σ H1 v d env' S1 r1 h2 D.nx fun σ' S' o=>q Θ σ' H1 ⟨zc.refl _ _,jF k,fun a m=>.inl (f.own.subset (o a m)),S'⟩
   ·cases hf
  ·cases hf
 ·cases hf
end
inductive gY (K:PySem.W.Frag) (E H:Hp) (Θ:List Addr):List Addr→List Vl→List V→Prop
 | nil:gY K E H Θ [] [] []
 | cons {as:List Addr} {x:Vl} {v:V} {xs:List Vl} {vs:List V}:pA K E Θ x v→gY K E H Θ as xs vs→gY K E H Θ as (x::xs) (v::vs)
 | own {as:List Addr} {a:Addr} {d:PyData} {xs:List Vl} {vs:List V}:lz E H a d→gY K E H Θ as xs vs→gY K E H Θ (as++[a]) (.ow d::xs) (.ref a::vs)
theorem gY.same {K:PySem.W.Frag} {E E' H:Hp} {Θ as:List Addr} {xs:List Vl} {vs:List V} (s:aV E E') (h:gY K E H Θ as xs vs):gY K E' H Θ as xs vs:=by
 induction h with
 | nil=>exact .nil
 | cons a _ ih=>exact .cons (a.same s) ih
 | own r _ ih=>exact .own (r.same s fun _ h=>h) ih
theorem gY.heap {K:PySem.W.Frag} {E H H':Hp} {Θ as:List Addr} {xs:List Vl} {vs:List V} (s:aV H H') (h:gY K E H Θ as xs vs):gY K E H' Θ as xs vs:=by
 induction h with
 | nil=>exact .nil
 | cons a _ ih=>exact .cons a ih
 | own r _ ih=>exact .own (r.same (aV.refl _) fun o ho=>s _ _ ho) ih
noncomputable def Vv (K:PySem.W.Frag) (f:FA):TA:=fun σ H Q=>∃Z Θ env C xs env' C',Sm K Z Θ env C σ H∧f env C=some (xs,env',C')∧
 ∀vs as H',bK Θ H H'→Fz env env'→(∀a∈as,H a=none)→Sm K (as++Z) Θ env' C' σ H'→gY K (er (aL (as++Z) Θ env' σ) H') H' Θ as xs vs→Q vs H'
noncomputable def oCons (f:FE) (g:FA):FA:=fun env C=>match f env C with
 | some (r,e1,C1)=>match g e1 C1 with
  | some (xs,e2,C2)=>some (r::xs,e2,C2)
  | none=>none
 | none=>none
section
variable {K:PySem.W.Frag} {Z Z' Θ:List Addr} {env:En} {C:Ce} {σ:St} {H:Hp}
theorem bI {a:Addr}:a∈aL Z Θ env σ ↔ a∈Z∨a∈Θ∨a∈aY env σ:=by rw [List.mem_append,List.mem_append]
theorem Sm.perm (S:Sm K Z Θ env C σ H) (p:Z.Perm Z'):Sm K Z' Θ env C σ H:=by
 have e:er (aL Z Θ env σ) H=er (aL Z' Θ env σ) H:=gj fun a=>by rw [bI,bI,p.mem_iff]
 refine ⟨S.len,(List.Perm.append_right _ p).nodup S.nd,fun a m=>S.dom a (p.mem_iff.mpr m),fun i x h=>?_,S.cell⟩
 rw [←e]
 exact S.slot i x h
end
section
variable {X:Cx} {e:Expr} {es:List Expr} {pos:Pos}
theorem nJ:PA X [] (Vv X.K aNil):=jb.weak fun σ H Q aR=>by
 obtain ⟨Z,Θ,env,C,xs,env',C',S,hf,q⟩:=aR
 cases hf
 exact q [] [] H (bK.refl _ _) (Fz.refl _) (fun _ m=>nomatch m) S .nil
theorem cN {f:FE} {g:FA} (h:PE X e (tE X.K f)) (hr:PA X es (Vv X.K g)) (hs:starEach (e::es) X.env=(false,eval e X.env)::starEach es X.env:=by rfl):PA X (e::es) (Vv X.K (oCons f g)):=(dw h hr hs).weak fun σ H Q aR=>by
 obtain ⟨Z,Θ,env,C,xs,env',C',S,hf,q⟩:=aR
 unfold oCons at hf
 split at hf
 ·rename_i r e1 C1 h1
  split at hf
  ·rename_i ys e2 C2 h2
   cases hf
   refine ⟨Z,Θ,env,C,r,e1,C1,S,h1,fun v H1 k1 f1 R1=>?_⟩
   have plain:∀{x:Vl},Sm X.K Z Θ e1 C1 σ H1→pA X.K (er (aL Z Θ e1 σ) H1) Θ x v→r=x→Vv X.K g σ H1 fun xs H2=>Q (v::xs) H2:=fun {x} S1 a1 ex=>by
    subst ex
    refine ⟨Z,Θ,e1,C1,ys,env',C',S1,h2,fun vs as H2 k2 f2 n2 S2 a2=>q _ as H2 (k1.trans k2) (f1.trans f2) (fun a m=>k1.none (n2 a m)) S2 (.cons (a1.same (dZ k2 S1.Gi fun a m=>?_)) a2)⟩
    rcases List.mem_append.mp m with m | m
    ·rcases List.mem_append.mp m with m | m
     ·exact .inr (n2 a m)
     ·exact .inl (List.mem_append_left _ m)
    ·exact .inl (f2.sub (Z:=Z) a (List.mem_append_right _ m))
   cases r with
   | im d=>exact plain (x:=.im d) R1.1 R1.2 rfl
   | ce n=>exact plain (x:=.ce n) R1.1 R1.2 rfl
   | sc ns=>exact plain (x:=.sc ns) R1.1 R1.2 rfl
   | ow d=>
    obtain ⟨a,rfl,hn,S1,r1⟩:=R1
    refine ⟨a::Z,Θ,e1,C1,ys,env',C',S1,h2,fun vs as H2 k2 f2 n2 S2 a2=>?_⟩
    have ez:as++a::Z=(as++[a])++Z:=by rw [List.append_assoc]; rfl
    rw [ez] at S2 a2
    have na:a∉Θ:=fun m=>(S1.iD.2.2.2 a List.mem_cons_self) m
    refine q _ (as++[a]) H2 (k1.trans k2) (f1.trans f2) (fun b m=>?_) S2 (.own (r1.same (dZ k2 S1.Gi fun b m=>?_) fun o ho=>k2.keep _ _ ho na) a2)
    ·rcases List.mem_append.mp m with m | m
     ·exact k1.none (n2 b m)
     ·rw [List.mem_singleton.mp m]; exact hn
    ·rcases List.mem_append.mp m with m | m
     ·rcases List.mem_append.mp m with m | m
      ·rcases List.mem_append.mp m with m | m
       ·exact .inr (n2 b m)
       ·rw [List.mem_singleton.mp m]; exact .inl List.mem_cons_self
      ·exact .inl (List.mem_append_left _ (List.mem_cons_of_mem _ m))
     ·exact .inl (f2.sub (Z:=a::Z) b (List.mem_append_right _ m))
  ·cases hf
 ·cases hf
end
noncomputable def setM {α:Type}:List Nat→List α→List (Option α)→List (Option α)
 | i::is,x::xs,e=>setM is xs (e.set i (some x))
 | _,_,e=>e
theorem Gz {K:PySem.W.Frag} {Z Θ:List Addr} {C:Ce} {H:Hp} {E:Hp}:∀{as:List Addr} {xs:List Vl} {vs:List V},gY K E H Θ as xs vs→∀{is:List Nat} {env:En} {σ:St},is.length=xs.length→aV E (er (aL (as++Z) Θ env σ) H)→Sm K (as++Z) Θ env C σ H→
  Sm K Z Θ (setM is xs env) C (setM is vs σ) H∧∀a∈aY (setM is xs env) (setM is vs σ),a∈aY env σ∨a∈as:=by
 intro as xs vs h
 induction h with
 | nil=>
  intro is env σ hl _ S
  cases is with
  | nil=>exact ⟨S,fun a m=>.inl m⟩
  | cons _ _=>cases hl
 | @cons as x v xs vs a1 _ ih=>
  intro is env σ hl sm S
  cases is with
  | nil=>cases hl
  | cons i is=>
   have hx:∀d,x≠.ow d:=fun d z=>by subst z; exact a1
   have sl:I9 K (er (aL (as++Z) Θ env σ) H) H Θ x v:=by
    have a2:=a1.same sm
    cases x with
    | im d=>exact a2
    | ow d=>exact absurd rfl (hx d)
    | ce n=>exact a2
    | sc ns=>exact a2
   have S1:Sm K (as++Z) Θ (env.set i (some x)) C (σ.set i (some v)) H:=S.Jf hx sl
   have o1:∀b∈aY (env.set i (some x)) (σ.set i (some v)),b∈aY env σ:=fun b m=>by
    rcases jE m with m | ⟨⟨d,z⟩,_⟩
    ·exact m
    ·exact absurd z (hx d)
   obtain ⟨S2,o2⟩:=ih (is:=is) (by simpa using hl) (sm.trans (Lr o1)) S1
   refine ⟨S2,fun b m=>?_⟩
   rcases o2 b m with m | m
   ·exact .inl (o1 b m)
   ·exact .inr m
 | @own as a d xs vs r _ ih=>
  intro is env σ hl sm S
  cases is with
  | nil=>cases hl
  | cons i is=>
   have pm:((as++[a])++Z).Perm (a::(as++Z)):=by
    rw [List.append_assoc]
    exact List.perm_middle
   have S0:=S.perm pm
   have ee:er (aL ((as++[a])++Z) Θ env σ) H=er (aL (a::(as++Z)) Θ env σ) H:=gj fun b=>by rw [bI,bI,pm.mem_iff]
   rw [ee] at sm
   have S1:Sm K (as++Z) Θ (env.set i (some (.ow d))) C (σ.set i (some (.ref a))) H:=S0.W2 (r.same sm fun _ h=>h)
   have o1:∀b∈aY (env.set i (some (.ow d))) (σ.set i (some (.ref a))),b∈aY env σ∨b=a:=fun b m=>by
    rcases jE m with m | ⟨_,z⟩
    ·exact .inl m
    ·cases z; exact .inr rfl
   obtain ⟨S2,o2⟩:=ih (is:=is) (by simpa using hl) (sm.trans (jf fun b m=>by
    rcases List.mem_append.mp m with m | m
    ·exact List.mem_append_left _ (List.mem_cons_of_mem _ m)
    ·rcases List.mem_append.mp m with m | m
     ·exact List.mem_append_right _ (List.mem_append_left _ m)
     ·rcases o1 b m with m | rfl
      ·exact List.mem_append_right _ (List.mem_append_right _ m)
      ·exact List.mem_append_left _ List.mem_cons_self)) S1
   refine ⟨S2,fun b m=>?_⟩
   rcases o2 b m with m | m
   ·rcases o1 b m with m | rfl
    ·exact .inl m
    ·exact .inr (List.mem_append_right _ (List.mem_singleton.mpr rfl))
   ·exact .inr (List.mem_append_left _ m)
theorem zf {K:PySem.W.Frag} {E H:Hp} {Θ as:List Addr} {xs:List Vl} {vs:List V} (h:gY K E H Θ as xs vs):vs.length=xs.length:=by
 induction h with
 | nil=>rfl
 | cons _ _ ih=>rw [List.length_cons,List.length_cons,ih]
 | own _ _ ih=>rw [List.length_cons,List.length_cons,ih]
noncomputable def fPar (is:List Nat) (g:FA):FS:=fun env C=>match g env C with
 | some (xs,e1,C1)=>if is.length=xs.length∧xs.length≤LIM then some (.nx,setM is xs e1,C1) else none
 | none=>none
noncomputable def Zg (is:List Nat):JS:=match is with
 | []=>Te
 | i::r=>JT (rA i) (Zg r)
theorem GC:∀{is:List Nat} {vs:List V} {σ:St} {H:Hp} {Q:St→Hp→Prop},is.length=vs.length→Q (setM is vs σ) H→Zg is vs σ H Q
 | [],[],σ,H,Q,_,q=>⟨rfl,q⟩
 | i::is,v::vs,σ,H,Q,h,q=>⟨v,vs,rfl,GC (by simpa using h) q⟩
 | [],_::_,_,_,_,h,_=>by cases h
 | _::_,[],_,_,_,h,_=>by cases h
section
variable {X:Cx} {pos:Pos}
theorem qJ {i j:Nat} {x y:Str} {a b:Expr} {g:FA} {px py pt:Pos} {kt k2 Ti} (hc:X.calm=true) (hN:X.N.Nodup) (hi:X.N[i]?=some x) (hj:X.N[j]?=some y) (hij:i≠j)
  (hx:X.env.scope.names.lookup x=some .local) (hy:X.env.scope.names.lookup y=some .local) (ha:PA X [a,b] (Vv X.K g))
  (hw:swappedStores [.Tuple [.Name x px,.Name y py] kt pt] (.Tuple [a,b] k2 Ti) X.env=pure (some [x,y]))
  (hs:swapsWithSole [.Tuple [.Name x px,.Name y py] kt pt] (.Tuple [a,b] k2 Ti) pos.line X.env=pure false:=by rfl):
  PS X (.Assign [.Tuple [.Name x px,.Name y py] kt pt] (.Tuple [a,b] k2 Ti) pos) (tS X.K (fPar [i,j] g)):=(Th hc hN hi hj hij hx hy ha hw hs).weak fun D σ H aR=>by
 obtain ⟨Z,Θ,env,C,fl,env',C',S,hf,q⟩:=aR
 unfold fPar at hf
 split at hf
 ·rename_i xs e1 C1 h1
  split at hf
  ·rename_i hl
   cases hf
   refine ⟨Z,Θ,env,C,xs,e1,C',S,h1,fun vs as H1 k1 f1 n1 S1 a1=>?_⟩
   have l2:=zf a1
   obtain ⟨S2,o2⟩:=Gz a1 hl.1 (aV.refl _) S1
   have e2:∃v w,vs=[v,w]:=by
    have:vs.length=2:=by rw [l2,←hl.1]; rfl
    match vs,this with
    | [v,w],_=>exact ⟨v,w,rfl⟩
   obtain ⟨v,w,rfl⟩:=e2
   refine ⟨v,w,rfl,q Θ _ H1 ⟨zc.refl _ _,jF k1,fun b m=>?_,S2⟩⟩
   rcases o2 b m with m | m
   ·exact .inl (f1.own.subset m)
   ·exact .inr (n1 b m)
  ·cases hf
 ·cases hf
theorem Qd {tg:Expr} {es:List Expr} {g:FA} {is:List Nat} {n:Nat} {x1 pt} (ha:PA X es (Vv X.K g)) (hg:PG X tg (Tf X.K n (Zg is))) (hn:n=is.length:=by rfl)
  (hs:swapsWithSole [tg] (.Tuple es x1 pt) pos.line X.env=pure false:=by rfl) (hw:swappedStores [tg] (.Tuple es x1 pt) X.env=pure none:=by rfl) (h1:(assignEach [tg] X.env).map (·.2)=[assign tg X.env]:=by rfl):
  PS X (.Assign [tg] (.Tuple es x1 pt) pos) (tS X.K (fPar is g)):=(Cp (CJ ha) hg hs hw h1).weak fun D σ H aR=>by
 obtain ⟨Z,Θ,env,C,fl,env',C',S,hf,q⟩:=aR
 unfold fPar at hf
 split at hf
 ·rename_i xs e1 C1 h1
  split at hf
  ·rename_i hl
   cases hf
   refine ⟨Z,Θ,env,C,xs,e1,C',S,h1,fun vs as H1 k1 f1 n1 S1 a1=>⟨by rw [zf a1]; exact dg hl.2,fun p hp=>?_⟩⟩
   have l2:=zf a1
   refine ⟨p,vs,rfl,gw.of aK,by rw [l2,hn,hl.1],GC (by rw [hl.1,l2]) ?_⟩
   have kp:bK Θ H1 (upd H1 p (.tup vs)):=bK.upd hp
   have S1':=S1.uy (aV.upd (o:=.tup vs) hp)
   have a1':gY X.K (er (aL (as++Z) Θ e1 σ) H1) (upd H1 p (.tup vs)) Θ as xs vs:=a1.heap fun b o ho=>by rw [aO (bC ho hp)]; exact ho
   obtain ⟨S2,o2⟩:=Gz a1' hl.1 (dZ kp S1.Gi fun b m=>.inl m) S1'
   refine q Θ _ _ ⟨zc.refl _ _,jF (k1.trans kp),fun b m=>?_,S2⟩
   rcases o2 b m with m | m
   ·exact .inl (f1.own.subset m)
   ·exact .inr (n1 b m)
  ·cases hf
 ·cases hf
end
end L2
namespace L2
open PySem PySem.Spec PyProof.Rows PySem.W
theorem Bg:∀{env:En} {σ:St} {i:Nat} {d d':PyData},env[i]?=some (some (.ow d))→aY (env.set i (some (.ow d'))) σ=aY env σ
 | [],σ,i,d,d',h=>by simp at h
 | x::e,[],i,d,d',h=>by cases i <;> rfl
 | x::e,v::s,0,d,d',h=>by
  simp at h
  subst h
  show own1 (some (.ow d')) v++aY e s=own1 (some (.ow d)) v++aY e s
  rcases v with _ | v
  ·rfl
  ·cases v <;> rfl
 | x::e,v::s,i + 1,d,d',h=>by
  show own1 x v++aY (e.set i (some (.ow d'))) s=own1 x v++aY e s
  rw [Bg (by simpa using h)]
section
variable {K:PySem.W.Frag} {Z Θ:List Addr} {env:En} {C:Ce} {σ:St} {H:Hp} {a:Addr} {i:Nat} {d d':PyData} {o:HO}
theorem DN {P:List Addr} (h:a∈P):er P (upd H a o)=er P H:=by
 funext b
 unfold er
 by_cases hb:b=a
 ·subst hb; rw [if_pos h,if_pos h]
 ·rw [aO hb]
theorem Sm.write (S:Sm K Z Θ env C σ H) (e1:env[i]?=some (some (.ow d))) (e2:σ[i]?=some (some (.ref a))) (r:lz (er (aL Z Θ env σ) H) (upd H a o) a d'):iH K Z Θ env σ H Θ (env.set i (some (.ow d'))) C σ (upd H a o):=by
 have m:a∈aY env σ:=cu.mpr ⟨i,d,e1,e2⟩
 have no:=S.dX m
 have eo:aY (env.set i (some (.ow d'))) σ=aY env σ:=Bg e1
 have mp:a∈aL Z Θ env σ:=List.mem_append_right _ (List.mem_append_right _ m)
 have ep:aL Z Θ (env.set i (some (.ow d'))) σ=aL Z Θ env σ:=by show _++(_++_)=_; rw [eo]
 refine ⟨zc.refl _ _,⟨fun b u hb n=>?_,fun b hb=>?_⟩,fun b mb=>.inl (by rw [eo] at mb; exact mb),⟨by rw [List.length_set]; exact S.len,by rw [ep]; exact S.nd,fun b mb=>?_,fun j y ej=>?_,⟨S.cell.len,fun n b ns h1 h2=>?_⟩⟩⟩
 ·rw [aO (fun z=>n (List.mem_append_right _ (by rw [z]; exact m)))]
  exact hb
 ·by_cases z:b=a
  ·subst z; rw [aK]; exact Option.some_ne_none _
  ·rw [aO z]; exact hb
 ·rw [aO (fun z=>no.1 (by rw [←z]; exact mb))]
  exact S.dom b mb
 ·rw [ep,DN mp]
  rcases get_set ej with ⟨rfl,ex,hl⟩ | ⟨n,ej⟩
  ·cases ex
   exact ⟨_,e2,a,rfl,r⟩
  ·obtain ⟨v,e3,r3⟩:=S.slot j y ej
   refine ⟨v,e3,r3.same (aV.refl _) fun d2 b ex ev u hu=>?_⟩
   subst ex ev
   rw [aO]
   ·exact hu
   ·intro z
    subst z
    exact n (oY S.iD.2.2.1 ej e3 e1 e2)
 ·rw [aO (fun z=>no.2 (by rw [←z]; exact List.mem_of_getElem? h1))]
  exact S.cell.at_ n b ns h1 h2
end
noncomputable def lF:Option (Option Vl)→Bool
 | some (some (.ow (.list _)))=>true
 | _=>false
noncomputable def j8 (i:Nat) (f:FE):FS:=fun env C=>if lF env[i]? then match f env C with
  | some (r,e1,C1)=>match still r,e1[i]? with
   | .im d,some (some (.ow (.list ds)))=>if ds.length < LIM then some (.nx,e1.set i (some (.ow (.list (ds++[d])))),C1) else none
   | _,_=>none
  | none=>none
 else none
theorem Lw {x:Option (Option Vl)} (h:lF x=true):∃ds,x=some (some (.ow (.list ds))):=by
 unfold lF at h
 split at h
 ·exact ⟨_,rfl⟩
 ·cases h
section
variable {X:Cx} {pos:Pos}
theorem lG {i:Nat} {o e:Expr} {f:FE} {apos cpos:Pos} (ho:PE X o (tW i)) (he:PE X e (tE X.K f))
  (hs0:swapsWith (.Call (.Attribute o "append" apos) [e] [] cpos) none pos.line X.env=pure false:=by rfl)
  (hbase:attributeBase o "append" X.env (eval o X.env)=eval o X.env:=by rfl)
  (hfew:((backTo cpos (starEach [e] X.env)).all (fun x=>!x.1)&&(backToKw cpos (keywordEach [] X.env)).all (fun x=>x.1.isSome)
   &&decide (([e]:List Expr).length + ([]:List Keyword).length + (if ([]:List Keyword).isEmpty then 0 else 1) < 30))=true:=by rfl)
  (hline:(apos.endLine==cpos.line)=true:=by rfl) (hs:starEach [e] X.env=(false,eval e X.env)::starEach [] X.env:=by rfl) (hplain:(backTo cpos (starEach [] X.env)).any (·.1)=false:=by rfl):
  PS X (.Expr (.Call (.Attribute o "append" apos) [e] [] cpos) pos) (tS X.K (j8 i f)):=
 (Fb (Rp PySem.F.plainAttrs_list PySem.F.slot_list_append PySem.F.type_list_append (Rq.r wO) ho (dw he jb hs) hbase hfew hline hs hplain) hs0).weak fun D σ H aR=>by
  obtain ⟨Z,Θ,env,C,fl,env',C',S,hf,q⟩:=aR
  unfold j8 at hf
  split at hf
  ·rename_i h0
   obtain ⟨ds0,h0⟩:=Lw h0
   obtain ⟨v0,Vw,a,rfl,XX,ha0,r0⟩:=S.slot i _ h0
   split at hf
   ·rename_i r e1 C1 h1
    split at hf
    ·rename_i d ds hd hi
     split at hf
     ·rename_i hl
      cases hf
      refine ⟨_,Vw,.inl ⟨rfl,XX,cJ.of ha0⟩,Z,Θ,env,C,r,e1,C',S,h1,fun v H1 k f R=>?_⟩
      obtain ⟨S1,r1⟩:=R.lE hd
      obtain ⟨v1,ev1,a1,ea1,vs,ha1,r2⟩:=S1.slot i _ hi
      subst ea1
      rw [Vw] at ev1
      cases ev1
      refine ⟨a,vs,v,rfl,rfl,ha1,by rw [bT r2,sizeLine_eq]; unfold LIM at hl; omega,?_⟩
      have w:iH X.K Z Θ e1 σ H1 Θ (e1.set i (some (.ow (.list (ds++[d]))))) C' σ (upd H1 a (.lst (vs++[v]))):=S1.write hi Vw ⟨_,aK,mK r2 ⟨v,[],rfl,r1,rfl⟩⟩
      exact q Θ σ _ ((iH.Gx k f S1).trans w)
     ·cases hf
    ·cases hf
   ·cases hf
  ·cases hf
noncomputable def jG {κ:Type} [DecidableEq κ] (f:PyData→Option κ) (k:κ) (dk d:PyData) (kvs:List (PyData×PyData)):List (PyData×PyData):=
 if (kvs.any fun p=>decide (f p.1=some k))=true then kvs.map (fun p=>if f p.1=some k then (p.1,d) else p) else kvs++[(dk,d)]
noncomputable def putD (kvs:List (PyData×PyData)) (dk d:PyData):Option (List (PyData×PyData)):=match cZ dk with
 | some k=>if (cz cZ kvs).isSome then some (jG cZ k dk d kvs) else none
 | none=>match cO dk with
  | some ks=>if (cz cO kvs).isSome then some (jG cO ks dk d kvs) else none
  | none=>none
theorem GD {κ:Type} [DecidableEq κ] {f:PyData→Option κ} {k:κ} {E:Hp}:∀{kvs:List (PyData×PyData)} {ks:List κ} {vs:List V},cz f kvs=some ks→oF E kvs vs→(kvs.any fun p=>decide (f p.1=some k))=((ks.zip vs).any fun kv=>decide (kv.1=k))
 | [],ks,vs,h,r=>by
  cases h
  cases (show vs=[] from r)
  rfl
 | (p,d)::kvs,ks,vs,h,r=>by
  unfold cz at h
  split at h
  ·rename_i k' t h1 h2
   cases h
   obtain ⟨v,w,rfl,q,s⟩:=r
   show (decide (f p=some k) || _)=(decide (k'=k) || _)
   rw [GD h2 s,h1]
   congr 1
   rw [Bool.eq_iff_iff,decide_eq_true_iff,decide_eq_true_iff]
   exact ⟨fun e=>Option.some.inj e,fun e=>by rw [e]⟩
  ·cases h
theorem GF {κ:Type} [DecidableEq κ] {f:PyData→Option κ} {k:κ} {E:Hp} {d:PyData} {v:V} (hv:RZ E d v):∀{kvs:List (PyData×PyData)} {ks:List κ} {vs:List V},cz f kvs=some ks→oF E kvs vs→
  ∃vs',cz f (kvs.map fun p=>if f p.1=some k then (p.1,d) else p)=some ks∧oF E (kvs.map fun p=>if f p.1=some k then (p.1,d) else p) vs'∧ks.zip vs'=(ks.zip vs).map fun kv=>if kv.1=k then (kv.1,v) else kv
 | [],ks,vs,h,r=>by
  cases h
  exact ⟨[],rfl,rfl,rfl⟩
 | (p,e)::kvs,ks,vs,h,r=>by
  unfold cz at h
  split at h
  ·rename_i k' t h1 h2
   cases h
   obtain ⟨u,w,rfl,q,s⟩:=r
   obtain ⟨vs',g1,g2,g3⟩:=GF (k:=k) hv h2 s
   have h1':f p=some k':=h1
   by_cases ek:k'=k
   ·subst ek
    refine ⟨v::vs',?_,?_,?_⟩
    ·rw [List.map_cons]
     show cz f ((if f p=some k' then (p,d) else (p,e))::_)=_
     rw [if_pos h1']
     unfold cz
     rw [g1]
     simp only [h1']
    ·rw [List.map_cons]
     show oF E ((if f p=some k' then (p,d) else (p,e))::_) _
     rw [if_pos h1']
     exact ⟨v,vs',rfl,hv,g2⟩
    ·show (k',v)::t.zip vs'=(if k'=k' then (k',v) else (k',u))::_
     rw [if_pos rfl,g3]
     rfl
   ·have ne:¬f p=some k:=fun z=>ek (Option.some.inj (h1'.symm.trans z))
    refine ⟨u::vs',?_,?_,?_⟩
    ·rw [List.map_cons]
     show cz f ((if f p=some k then (p,d) else (p,e))::_)=_
     rw [if_neg ne]
     unfold cz
     rw [g1]
     simp only [h1']
    ·rw [List.map_cons]
     show oF E ((if f p=some k then (p,d) else (p,e))::_) _
     rw [if_neg ne]
     exact ⟨u,vs',rfl,q,g2⟩
    ·show (k',u)::t.zip vs'=(if k'=k then (k',v) else (k',u))::_
     rw [if_neg ek,g3]
     rfl
  ·cases h
theorem Bh {κ:Type} {f:PyData→Option κ} {k:κ} {E:Hp} {dk d:PyData} {v:V} (hk:f dk=some k) (hv:RZ E d v):∀{kvs:List (PyData×PyData)} {ks:List κ} {vs:List V},cz f kvs=some ks→oF E kvs vs→
  cz f (kvs++[(dk,d)])=some (ks++[k])∧oF E (kvs++[(dk,d)]) (vs++[v])∧(ks++[k]).zip (vs++[v])=ks.zip vs++[(k,v)]
 | [],ks,vs,h,r=>by
  cases h
  cases (show vs=[] from r)
  refine ⟨?_,⟨v,[],rfl,hv,rfl⟩,rfl⟩
  show cz f [(dk,d)]=_
  unfold cz cz
  simp only [hk]
  rfl
 | (p,e)::kvs,ks,vs,h,r=>by
  unfold cz at h
  split at h
  ·rename_i k' t h1 h2
   cases h
   obtain ⟨u,w,rfl,q,s⟩:=r
   obtain ⟨g1,g2,g3⟩:=Bh hk hv h2 s
   refine ⟨?_,⟨u,_,rfl,q,g2⟩,?_⟩
   ·show cz f ((p,e)::(kvs++[(dk,d)]))=_
    unfold cz
    rw [g1]
    simp only [show f p=some k' from h1]
    rfl
   ·show (k',u)::(t++[k]).zip (w++[v])=_
    rw [g3]
    rfl
  ·cases h
theorem tH {κ:Type} [DecidableEq κ] {f:PyData→Option κ} {k:κ} {E:Hp} {dk d:PyData} {v:V} (hk:f dk=some k) (hv:RZ E d v) {kvs:List (PyData×PyData)} {ks:List κ} {vs:List V} (h:cz f kvs=some ks) (r:oF E kvs vs):
  ∃ks' vs',cz f (jG f k dk d kvs)=some ks'∧oF E (jG f k dk d kvs) vs'∧ks'.zip vs'=putK (ks.zip vs) k v:=by
 unfold jG putK
 rw [GD h r]
 split
 ·obtain ⟨vs',g1,g2,g3⟩:=GF (k:=k) hv h r
  exact ⟨ks,vs',g1,g2,g3⟩
 ·obtain ⟨g1,g2,g3⟩:=Bh hk hv h r
  exact ⟨_,_,g1,g2,g3⟩
theorem set_dict (hu:X.A.units + 1 < cLine):yp X (fun o i v H Q=>∃a H',o=.ref a∧vV H a i v H'∧Q H'):=by
 intro pins s σ H o i v ov iv u Q I ro ri rv h
 obtain ⟨a,H',rfl,g,q⟩:=h
 cases ro
 exact wR hu I g ri rv fun s' I'=>⟨H',I',q⟩
theorem Jg (hu:X.A.units + 1 < cLine):yp X (fun o i v H Q=>∃(a b:Addr) (ks:List Key),o=.ref a∧H a=some (.dK [])∧i=.ref b∧H b=some (.tup (ks.map kV))∧Q (upd H a (.dT [(ks,v)]))):=by
 intro pins s σ H o i v ov iv u Q I ro ri rv h
 obtain ⟨a,b,ks,rfl,ha,rfl,hb,q⟩:=h
 cases ro
 have hb':(upd H a (.dT [])) b=some (.tup (ks.map kV)):=by rw [aO (JL hb ha (fun z=>nomatch z))]; exact hb
 refine wR hu (I.WR ha) (vV.t (kvs:=[]) (k:=ks) (v:=v) aK hb' (by rw [sizeLine_eq]; decide)) ri rv fun s' I'=>⟨_,I',?_⟩
 rw [Ex]
 exact q
theorem yp.or {t t':Oj} (h:yp X t) (h':yp X t'):yp X (fun o i v H Q=>t o i v H Q∨t' o i v H Q):=by
 intro pins s σ H o i v ov iv u Q I ro ri rv q
 rcases q with q | q
 ·exact h pins s σ H o i v ov iv u Q I ro ri rv q
 ·exact h' pins s σ H o i v ov iv u Q I ro ri rv q
theorem Qe (hu:X.A.units + 1 < cLine):yp X (fun o i v H Q=>(Ro o i v H Q∨∃a H',o=.ref a∧vV H a i v H'∧Q H')∨∃(a b:Addr) (ks:List Key),o=.ref a∧H a=some (.dK [])∧i=.ref b∧H b=some (.tup (ks.map kV))∧Q (upd H a (.dT [(ks,v)]))):=
 (set_list.or (set_dict hu)).or (Jg hu)
noncomputable def uK:Option (Option Vl)→Bool
 | some (some _)=>true
 | _=>false
theorem Qf {x:Option (Option Vl)} (h:uK x=true):∃y,x=some (some y):=by
 unfold uK at h
 split at h
 ·exact ⟨_,rfl⟩
 ·cases h
noncomputable def wj (i:Nat) (fk:FB) (fe:FE):FS:=fun env C=>match fe env C with
 | some (r,e1,C1)=>match still r with
  | .im d=>match fk e1 C1 with
   | some (dk,e2,C2)=>if uK e1[i]? then match e2[i]? with
    | some (some (.ow (.list ds)))=>match dk with
     | .int z=>match yz ds.length z with
      | some j=>some (.nx,e2.set i (some (.ow (.list (ds.set j d)))),C2)
      | none=>none
     | _=>none
    | some (some (.ow (.dict kvs)))=>match putD kvs dk d with
     | some kvs'=>if kvs.length < LIM then some (.nx,e2.set i (some (.ow (.dict kvs'))),C2) else none
     | none=>none
    | some (some (.ce n))=>match dk with
     | .int z=>match d with
      | .int y=>match C2[n]? with
       | some ns=>match yz ns.length z with
        | some j=>some (.nx,e2,C2.set n (ns.set j y))
        | none=>none
       | none=>none
      | _=>none
     | _=>none
    | _=>none
    else none
   | none=>none
  | _=>none
 | none=>none
theorem zg {i:Nat} {o k e:Expr} {fk:FB} {fe:FE} {p:Pos} (hu:X.A.units + 1 < cLine) (ho:PE X o (tW i)) (hk:PE X k (jD X.K fk)) (he:PE X e (tE X.K fe))
  (ha:∀v,assign (.Subscript o k p) X.env v=(do
   let ov ←holding [v] (eval o X.env)
   let iv ←holding [v,ov] (eval k X.env)
   standAt p
   holding [v,ov,iv] (setItem ov iv v)
   release [v,ov,iv] []):=by intro _; rfl)
  (hs:swapsWithSole [.Subscript o k p] e pos.line X.env=pure false:=by rfl) (hw:swappedStores [.Subscript o k p] e X.env=pure none:=by rfl) (h1:(assignEach [.Subscript o k p] X.env).map (·.2)=[assign (.Subscript o k p) X.env]:=by rfl):
  PS X (.Assign [.Subscript o k p] e pos) (tS X.K (wj i fk fe)):=(Cp he (Tg ho hk (Qe hu) ha) hs hw h1).weak fun D σ H aR=>by
 obtain ⟨Z,Θ,env,C,fl,env',C',S,hf,q⟩:=aR
 unfold wj at hf
 split at hf
 ·rename_i r e1 C1 h1
  split at hf
  ·rename_i d hd
   split at hf
   case h_2=>cases hf
   rename_i dk e2 C2 h2
   refine ⟨Z,Θ,env,C,r,e1,C1,S,h1,fun v H1 k1 f1 R1=>?_⟩
   obtain ⟨S1,r1⟩:=R1.lE hd
   split at hf
   ·rename_i h3
    obtain ⟨y3,h3⟩:=Qf h3
    obtain ⟨u,eu,_⟩:=S1.slot i _ h3
    refine ⟨u,eu,Z,Θ,e1,C1,dk,e2,C2,S1,h2,fun w H2 k2 f2 S2 b2=>?_⟩
    have r2:RZ (er (aL Z Θ e2 σ) H2) d v:=r1.same (K9 S1 k2 f2)
    have kk:=k1.trans k2
    have ff:=f1.trans f2
    split at hf
    ·rename_i ds hi
     split at hf
     case h_2=>cases hf
     rename_i z
     split at hf
     ·rename_i j hj
      cases hf
      obtain ⟨u',RQ,a,ea,vs,ha,r3⟩:=S2.slot i _ hi
      subst ea
      rw [eu] at RQ
      cases RQ
      cases b2.int
      refine .inl (.inl ⟨a,vs,z,j,rfl,rfl,ha,by rw [bT r3]; exact hj,?_⟩)
      have wr:iH X.K Z Θ e2 σ H2 Θ (e2.set i (some (.ow (.list (ds.set j d))))) C' σ (upd H2 a (.lst (vs.set j v))):=S2.write hi eu ⟨_,aK,Gh r2 j r3⟩
      exact q Θ σ _ ((iH.Gx kk ff S2).trans wr)
     ·cases hf
    ·rename_i kvs hi
     split at hf
     ·rename_i kvs' hp
      split at hf
      ·rename_i hl
       cases hf
       obtain ⟨u',RQ,a,ea,vs,da,r3⟩:=S2.slot i _ hi
       subst ea
       rw [eu] at RQ
       cases RQ
       unfold putD at hp
       split at hp
       ·rename_i k hk
        split at hp
        ·rename_i hs'
         cases hp
         have wk:w=kV k:=by
          cases dk <;> first | (cases hk; exact b2) | cases hk
         rcases da with ⟨ks,g1,ha⟩ | ⟨ks,⟨ne,g2⟩,ha⟩
         ·obtain ⟨ks',vs',g3,g4,g5⟩:=tH hk r2 g1 r3
          have hl':(ks.zip vs).length < sizeLine:=by
           rw [List.length_zip,sizeLine_eq,gU g1]
           unfold LIM at hl
           omega
          have dp:=vV.k (k:=k) (v:=v) ha hl'
          rw [←wk] at dp
          refine .inl (.inr ⟨a,_,rfl,dp,?_⟩)
          have wr:iH X.K Z Θ e2 σ H2 Θ (e2.set i (some (.ow (.dict (jG cZ k dk d kvs))))) C' σ (upd H2 a (.dK (putK (ks.zip vs) k v))):=S2.write hi eu ⟨vs',.inl ⟨ks',g3,by rw [g5]; exact aK⟩,g4⟩
          exact q Θ σ _ ((iH.Gx kk ff S2).trans wr)
         ·obtain ⟨Zh,g1⟩:=Option.isSome_iff_exists.mp hs'
          exact absurd (jw g1 g2) ne
        ·cases hp
       ·split at hp
        ·rename_i UW hks
         split at hp
         ·rename_i hs'
          cases hp
          obtain ⟨b,hb,rfl⟩:∃b,H2 b=some (.tup (UW.map kV))∧w=.ref b:=by
           cases dk <;> first | cases hks | skip
           obtain ⟨b,ws,rfl,hb,rr⟩:=b2.tup
           rw [gO hks rr] at hb
           exact ⟨b,hb,rfl⟩
          have ne':∀kvs,jG cO UW dk d kvs≠[]:=fun kvs z=>by
           unfold jG at z
           split at z
           ·rename_i hz
            cases kvs with
            | nil=>cases hz
            | cons _ _=>cases z
           ·cases kvs <;> cases z
          rcases da with ⟨ks,g1,ha⟩ | ⟨ks,⟨ne,g1⟩,ha⟩
          ·obtain ⟨Zh,g2⟩:=Option.isSome_iff_exists.mp hs'
           have e0:=jw g1 g2
           subst e0
           cases g1
           have e0:vs=[]:=r3
           subst e0
           obtain ⟨ks',vs',g3,g4,g5⟩:=tH (kvs:=[]) (vs:=[]) (ks:=[]) hks r2 rfl rfl
           refine .inr ⟨a,b,UW,rfl,ha,rfl,hb,?_⟩
           have wr:iH X.K Z Θ e2 σ H2 Θ (e2.set i (some (.ow (.dict (jG cO UW dk d []))))) C' σ (upd H2 a (.dT [(UW,v)])):=S2.write hi eu ⟨vs',.inr ⟨ks',⟨ne' [],g3⟩,by rw [g5]; exact aK⟩,g4⟩
           exact q Θ σ _ ((iH.Gx kk ff S2).trans wr)
          ·obtain ⟨ks',vs',g3,g4,g5⟩:=tH hks r2 g1 r3
           have hl':(ks.zip vs).length < sizeLine:=by
            rw [List.length_zip,sizeLine_eq,gU g1]
            unfold LIM at hl
            omega
           refine .inl (.inr ⟨a,_,rfl,vV.t ha hb hl',?_⟩)
           have wr:iH X.K Z Θ e2 σ H2 Θ (e2.set i (some (.ow (.dict (jG cO UW dk d kvs))))) C' σ (upd H2 a (.dT (putK (ks.zip vs) UW v))):=S2.write hi eu ⟨vs',.inr ⟨ks',⟨ne' kvs,g3⟩,by rw [g5]; exact aK⟩,g4⟩
           exact q Θ σ _ ((iH.Gx kk ff S2).trans wr)
         ·cases hp
        ·cases hp
      ·cases hf
     ·cases hf
    ·rename_i n hi
     split at hf
     case h_2=>cases hf
     rename_i z
     split at hf
     case h_2=>cases hf
     rename_i y
     split at hf
     ·rename_i ns hns
      split at hf
      ·rename_i j hj
       cases hf
       obtain ⟨u',RQ,a,ea,hth⟩:=S2.slot i _ hi
       subst ea
       rw [eu] at RQ
       cases RQ
       cases b2.int
       have ev:v=.int y:=r2
       subst ev
       have ha:=S2.cell.at_ n a ns hth hns
       refine .inl (.inl ⟨a,_,z,j,rfl,rfl,ha,by rw [List.length_map]; exact hj,?_⟩)
       have am:a∈Θ:=List.mem_of_getElem? hth
       have kc:bK Θ H2 (upd H2 a (.lst ((ns.map V.int).set j (.int y)))):=⟨fun b o hb nb=>by rw [aO (fun zz=>nb (by rw [zz]; exact am))]; exact hb,fun b hb=>by
        by_cases zz:b=a
        ·subst zz; rw [aK]; exact Option.some_ne_none _
        ·rw [aO zz]; exact hb⟩
       have cc:dW Θ (C2.set n (ns.set j y)) (upd H2 a (.lst ((ns.map V.int).set j (.int y)))):=by
        refine ⟨by rw [List.length_set]; exact S2.cell.len,fun m b ms h5 h6=>?_⟩
        rcases get_set h6 with ⟨rfl,e6,_⟩ | ⟨nm,h6⟩
        ·rw [hth] at h5
         cases h5
         cases e6
         rw [aK,List.map_set]
        ·rw [aO]
         ·exact S2.cell.at_ m b ms h5 h6
         ·intro zz
          subst zz
          have nd:=S2.iD.2.1
          have l1:=(List.getElem?_eq_some_iff.mp h5)
          have l2:=(List.getElem?_eq_some_iff.mp hth)
          obtain ⟨l1,l1'⟩:=l1
          obtain ⟨l2,l2'⟩:=l2
          rcases Nat.lt_trichotomy m n with hlt | heq | hgt
          ·exact List.pairwise_iff_getElem.mp nd m n l1 l2 hlt (l1'.trans l2'.symm)
          ·exact nm heq
          ·exact List.pairwise_iff_getElem.mp nd n m l2 l1 hgt (l2'.trans l1'.symm)
       exact q Θ σ _ ((iH.Gx kk ff S2).trans (iH.Gx kc (Fz.refl _) (S2.go kc cc)))
      ·cases hf
     ·cases hf
    ·cases hf
   ·cases hf
  ·cases hf
 ·cases hf
end
end L2
namespace L2
open PySem PySem.Spec PyProof.Rows PySem.W
noncomputable def intsOf:List PyData→Option (List Int)
 | []=>some []
 | .int i::r=>match intsOf r with
  | some t=>some (i::t)
  | none=>none
 | _=>none
theorem lH {E:Hp}:∀{ds:List PyData} {ns:List Int} {vs:List V},intsOf ds=some ns→dJ E ds vs→vs=ns.map V.int
 | [],ns,vs,h,r=>by cases h; exact r
 | .int i::ds,ns,vs,h,r=>by
  unfold intsOf at h
  split at h
  ·rename_i t ht
   cases h
   obtain ⟨u,w,rfl,q,s⟩:=r
   rw [lH ht s]
   have:u=.int i:=q
   rw [this]
   rfl
  ·cases h
 | .none::_,_,_,h,_=>by cases h
 | .bool _::_,_,_,h,_=>by cases h
 | .str _::_,_,_,h,_=>by cases h
 | .list _::_,_,_,h,_=>by cases h
 | .tuple _::_,_,_,h,_=>by cases h
 | .dict _::_,_,_,h,_=>by cases h
noncomputable def Lx (i:Nat) (f:FE):FS:=fun env C=>match f env C with
 | some (.ow (.list ds),e1,C1)=>match intsOf ds with
  | some ns=>some (.nx,e1.set i (some (.ce C1.length)),C1++[ns])
  | none=>none
 | _=>none
section
variable {X:Cx} {pos:Pos}
theorem Ly {K:PySem.W.Frag} {i:Nat} {f:FE}:∀D σ H,tS K (Lx i f) D σ H→HB (tE K f) (rA i) D σ H:=by
 rintro D σ H ⟨Z,Θ,env,C,fl,env',C',S,hf,q⟩
 unfold Lx at hf
 split at hf
 ·rename_i ds e1 C1 h1
  split at hf
  ·rename_i ns hns
   cases hf
   refine ⟨Z,Θ,env,C,_,e1,C1,S,h1,fun v H1 k f R=>?_⟩
   obtain ⟨a,rfl,hn,S1,vs,ha,r⟩:=R
   have ev:=lH hns r
   subst ev
   have iD:=S1.iD
   have W3:=List.nodup_cons.mp iD.1
   have cl:=S1.cell.len
   have c':dW (Θ++[a]) (C1++[ns]) H1:=by
    refine ⟨by rw [List.length_append,List.length_append,cl]; rfl,fun m b ms h5 h6=>?_⟩
    by_cases hm:m < Θ.length
    ·rw [List.getElem?_append_left hm] at h5
     rw [List.getElem?_append_left (by rw [cl]; exact hm)] at h6
     exact S1.cell.at_ m b ms h5 h6
    ·rw [List.getElem?_append_right (by omega)] at h5
     rw [List.getElem?_append_right (by omega)] at h6
     rw [cl] at h6
     cases hm0:m - Θ.length with
     | zero=>rw [hm0] at h5 h6; cases h5; cases h6; exact ha
     | succ j=>rw [hm0] at h5; simp at h5
   have o1:∀b∈aY (e1.set i (some (.ce C1.length))) (σ.set i (some (.ref a))),b∈aY e1 σ:=fun b m=>by
    rcases jE m with m | ⟨⟨_,z⟩,_⟩
    ·exact m
    ·cases z
   have S2:Sm K Z (Θ++[a]) e1 (C1++[ns]) σ H1:=by
    have mm:∀b,b∈aL Z (Θ++[a]) e1 σ ↔ b∈aL (a::Z) Θ e1 σ:=fun b=>by
     rw [bI,bI,List.mem_append,List.mem_singleton,List.mem_cons]
     constructor
     ·rintro (h | (h | h) | h)
      ·exact .inl (.inr h)
      ·exact .inr (.inl h)
      ·exact .inl (.inl h)
      ·exact .inr (.inr h)
     ·rintro ((h | h) | h | h)
      ·exact .inr (.inl (.inr h))
      ·exact .inl h
      ·exact .inr (.inl (.inl h))
      ·exact .inr (.inr h)
    refine ⟨S1.len,UJ W3.2 ?_ iD.2.2.1 (fun b m=>?_) fun b m=>?_,fun b m=>S1.dom b (List.mem_cons_of_mem _ m),fun j x e=>?_,c'⟩
    ·rw [List.nodup_append]
     exact ⟨iD.2.1,List.nodup_cons.mpr ⟨by simp,List.nodup_nil⟩,fun b m c m' e=>by
      rw [List.mem_singleton] at m'
      subst e m'
      exact iD.2.2.2 b List.mem_cons_self m⟩
    ·intro m'
     rcases List.mem_append.mp m' with m' | m'
     ·exact iD.2.2.2 b (List.mem_cons_of_mem _ m) m'
     ·rw [List.mem_singleton.mp m'] at m
      exact W3.1 m
    ·obtain ⟨p1,p2⟩:=S1.dX m
     refine ⟨fun z=>p1 (List.mem_cons_of_mem _ z),fun m'=>?_⟩
     rcases List.mem_append.mp m' with m' | m'
     ·exact p2 m'
     ·rw [List.mem_singleton.mp m'] at p1
      exact p1 List.mem_cons_self
    ·obtain ⟨v,e3,r3⟩:=S1.slot j x e
     rw [gj mm]
     refine ⟨v,e3,?_⟩
     cases x with
     | im d=>exact r3
     | ow d=>exact r3
     | ce n=>
      obtain ⟨b,e5,e6⟩:=r3
      exact ⟨b,e5,by rw [List.getElem?_append_left (List.getElem?_eq_some_iff.mp e6).1]; exact e6⟩
     | sc ns=>exact r3
   have S3:Sm K Z (Θ++[a]) (e1.set i (some (.ce C1.length))) (C1++[ns]) (σ.set i (some (.ref a))) H1:=
    S2.Jf (fun _ z=>nomatch z) ⟨a,rfl,by rw [cl,List.getElem?_append_right (Nat.le_refl _),Nat.sub_self]; rfl⟩
   exact q (Θ++[a]) _ H1 ⟨⟨[a],rfl,fun b m=>by rw [List.mem_singleton.mp m]; exact hn⟩,jF k,fun b m=>.inl (f.own.subset (o1 b m)),S3⟩
  ·cases hf
 ·cases hf
theorem U0 {i:Nat} {x:Str} {e:Expr} {f:FE} {pos':Pos} (hN:X.N.Nodup) (hi:X.N[i]?=some x) (hx:Loc X.env.scope x) (he:PE X e (tE X.K f)) (hs:swapsWith e (some (.Name x pos')) pos.line X.env=pure false:=by rfl) (hf:X.fn x=true∨X.env.scope.names.lookup x=some .local:=by first | exact .inl rfl | exact .inr rfl | assumption):
  PS X (.Assign [.Name x pos'] e pos) (tS X.K (Lx i f)):=(JV hN hi hx he hs hf).weak Ly
end
noncomputable def ji (c:FT) (body:FS):Nat→FS
 | 0=>fun _ _=>none
 | n + 1=>fun env C=>match c env C with
  | some (false,C1)=>some (.nx,env,C1)
  | some (true,C1)=>match body env C1 with
   | some (.nx,e2,C2)=>ji c body n e2 C2
   | some (.ct,e2,C2)=>ji c body n e2 C2
   | some (.bk,e2,C2)=>some (.nx,e2,C2)
   | some (.rt r,e2,C2)=>some (.rt r,e2,C2)
   | none=>none
  | none=>none
noncomputable def RT:Nat:=100000
noncomputable def Zi (c:FT) (body:FS):FS:=ji c body RT
theorem DP {K:PySem.W.Frag} {c:FT} {body:FS} {n:Nat}:∀D σ H,tS K (ji c body n) D σ H→JW (kh K c) (tS K body) D σ H:=by
 rintro D σ H ⟨Z,Θ,env,C,fl,env',C',S,hf,q⟩
 refine ⟨fun m σ1 H1=>∃Θ1 e1 C1,iH K Z Θ env σ H Θ1 e1 C1 σ1 H1∧ji c body m e1 C1=some (fl,env',C'),⟨n,Θ,env,C,iH.same S,hf⟩,?_⟩
 rintro m σ1 H1 ⟨Θ1,e1,C1,p,hf⟩
 cases m with
 | zero=>cases hf
 | succ m=>
  unfold ji at hf
  split at hf
  ·rename_i C2 h1
   cases hf
   exact ⟨Z,Θ1,env',C1,false,C',p.sm,h1,fun H2 k2 S2=>vW (q Θ1 σ1 H2 (p.trans (iH.Gx k2 (Fz.refl _) S2)))⟩
  ·rename_i C2 h1
   refine ⟨Z,Θ1,e1,C1,true,C2,p.sm,h1,fun H2 k2 S2=>vX ⟨fun σ' H'=>∃Θ1 e1 C1,iH K Z Θ env σ H Θ1 e1 C1 σ' H'∧ji c body m e1 C1=some (fl,env',C'),fun σ' H' h=>⟨m,Nat.lt_succ_self m,h⟩,?_⟩⟩
   have p2:=p.trans (iH.Gx k2 (Fz.refl _) S2)
   split at hf
   ·rename_i e3 C3 h2
    exact ⟨Z,Θ1,e1,C2,.nx,e3,C3,S2,h2,fun Θ3 σ3 H3 p3=>⟨Θ3,e3,C3,p2.trans p3,hf⟩⟩
   ·rename_i e3 C3 h2
    exact ⟨Z,Θ1,e1,C2,.ct,e3,C3,S2,h2,fun Θ3 σ3 H3 p3=>⟨Θ3,e3,C3,p2.trans p3,hf⟩⟩
   ·rename_i e3 C3 h2
    cases hf
    exact ⟨Z,Θ1,e1,C2,.bk,env',C',S2,h2,fun Θ3 σ3 H3 p3=>q Θ3 σ3 H3 (p2.trans p3)⟩
   ·rename_i r e3 C3 h2
    cases hf
    exact ⟨Z,Θ1,e1,C2,.rt r,env',C',S2,h2,fun Θ3 v H3 p3=>q Θ3 v H3 (p2.ret p3)⟩
   ·cases hf
  ·cases hf
theorem Lz {X:Cx} {pos:Pos} {c:Expr} {body:List Stmt} {t:FT} {f:FS} (hp:PassesOwn (model X.prog X.w) X.A X.env X.xe) (hc:PT X c (kh X.K t)) (hb:sJ X body (tS X.K f)):PS X (.While c body [] pos) (tS X.K (Zi t f)):=(JX hp hc hb).weak DP
noncomputable abbrev FI:=En→Ce→Option (List PyData×En×Ce)
noncomputable def wu (P T:List Addr) (H:Hp) (J:It) (its:List PyData):Prop:=∀(i:Nat) (H2:Hp) (P2:List Addr),aV (er P H) (er P2 H2)→aV (er T H) (er T H2)→(∀a∈P2,H2 a≠none)→
 (∀d,its[i]?=some d→J.go i H2∧∀x H3,J.Rk i H2 x H3→aV H2 H3∧RZ (er P2 H3) d x)∧(i=its.length→J.stop i H2)
noncomputable def tI (K:PySem.W.Frag) (b:Bool) (f:FI):TI:=fun σ H R=>∃Z Θ env C its env' C',Sm K Z Θ env C σ H∧f env C=some (its,env',C')∧
 ∀J H',bK Θ H H'→Fz env env'→Sm K Z Θ env' C' σ H'→wu (aL Z Θ env' σ) (if b then Θ else aL Z Θ env' σ) H' J its→R J H'
theorem PI.weak {X:Cx} {tg e:Expr} {t t':TI} (h:PI X tg e t) (w:∀σ H Q,t' σ H Q→t σ H Q):PI X tg e t':=fun pins s σ H Q I q=>h pins s σ H Q I (w σ H Q q)
theorem PI.or {X:Cx} {tg e:Expr} {t t':TI} (h:PI X tg e t) (h':PI X tg e t'):PI X tg e (fun σ H R=>t σ H R∨t' σ H R):=fun pins s σ H R I q=>q.elim (h pins s σ H R I) (h' pins s σ H R I)
section
variable {K:PySem.W.Frag} {P T:List Addr} {H:Hp} {a:Addr} {ds:List PyData} {vs:List V}
theorem tK (ha:er T H a=some (.lst vs)) (r:dJ (er P H) ds vs):wu P T H (Yw K a) ds:=fun i H2 P2 s1 s2 n=>by
 have h2:cJ K H2 a vs:=cJ.of (bL (s2 _ _ ha))
 refine ⟨fun d hd=>?_,fun hi=>⟨vs,h2,by rw [bT r,hi]; exact Nat.le_refl _⟩⟩
 obtain ⟨v,ev,rv⟩:=nG r hd
 refine ⟨⟨vs,v,h2,ev⟩,fun x H3 y=>?_⟩
 obtain ⟨rfl,y⟩:=y
 have:=y vs h2
 rw [ev] at this
 cases this
 exact ⟨aV.refl _,rv.same s1⟩
theorem zj (ha:er P H a=some (.tup vs)) (r:dJ (er P H) ds vs):wu P T H (Yx K a) ds:=fun i H2 P2 s1 s2 n=>by
 have h2:gw K H2 a vs:=gw.of (bL (s1 _ _ ha))
 refine ⟨fun d hd=>?_,fun hi=>⟨vs,h2,by rw [bT r,hi]; exact Nat.le_refl _⟩⟩
 obtain ⟨v,ev,rv⟩:=nG r hd
 refine ⟨⟨vs,v,h2,ev⟩,fun x H3 y=>?_⟩
 obtain ⟨rfl,y⟩:=y
 have:=y vs h2
 rw [ev] at this
 cases this
 exact ⟨aV.refl _,rv.same s1⟩
noncomputable def chars (z:Str):List PyData:=z.cps.toList.map fun c=>.str ⟨#[c]⟩
theorem LC (z:Str):wu P T H (Y5 z) (chars z):=fun i H2 P2 s1 s2 n=>by
 refine ⟨fun d hd=>?_,fun hi=>?_⟩
 ·unfold chars at hd
  rw [List.getElem?_map] at hd
  cases hc:z.cps.toList[i]? with
  | none=>rw [hc] at hd; cases hd
  | some c=>
   rw [hc] at hd
   cases hd
   have hc':z.cps[i]?=some c:=by rw [←Array.getElem?_toList]; exact hc
   have hlt:i < z.cps.size:=by
    obtain ⟨h,_⟩:=Array.getElem?_eq_some_iff.mp hc'
    exact h
   refine ⟨hlt,fun x H3 y=>?_⟩
   obtain ⟨rfl,c',ec,rfl⟩:=y
   rw [hc'] at ec
   cases ec
   exact ⟨aV.refl _,rfl⟩
 ·show z.cps.size≤i
  rw [hi]
  unfold chars
  rw [List.length_map,Array.length_toList]
  exact Nat.le_refl _
noncomputable def lJ (lo:Int) (n:Nat):List PyData:=(List.range n).map fun (k:Nat)=>.int (lo + (k:Int))
theorem LK (lo:Int) (n:Nat):wu P T H (XH lo n) (lJ lo n):=fun i H2 P2 s1 s2 nn=>by
 refine ⟨fun d hd=>?_,fun hi=>?_⟩
 ·unfold lJ at hd
  rw [List.getElem?_map] at hd
  by_cases hlt:i < n
  ·rw [List.getElem?_range hlt] at hd
   cases hd
   refine ⟨hlt,fun x H3 y=>?_⟩
   obtain ⟨rfl,rfl⟩:=y
   exact ⟨aV.refl _,rfl⟩
  ·rw [List.getElem?_eq_none (by rw [List.length_range]; omega)] at hd
   cases hd
 ·show n≤i
  rw [hi]
  unfold lJ
  rw [List.length_map,List.length_range]
  exact Nat.le_refl _
end
noncomputable def itD:PyData→Option (List PyData)
 | .list ds=>some ds
 | .tuple ds=>some ds
 | .str z=>some (chars z)
 | _=>none
noncomputable def iB (f:FB):FI:=fun env C=>match f env C with
 | some (d,e1,C1)=>match itD d with
  | some its=>some (its,e1,C1)
  | none=>none
 | none=>none
noncomputable def iV (f:FE):FI:=fun env C=>match f env C with
 | some (r,e1,C1)=>match still r with
  | .im d=>match itD d with
   | some its=>some (its,e1,C1)
   | none=>none
  | _=>none
 | none=>none
noncomputable def zR (f:FB):FI:=fun env C=>match f env C with
 | some (.int j,_,C1)=>if -(2 ^ 62)≤j∧j < 2 ^ 62 then some (lJ 0 j.toNat,env,C1) else none
 | _=>none
section
variable {X:Cx} {tg e:Expr}
theorem wz {f:FB} (h:PE X e (jD X.K f)) (hgo:∀i u,letOwnedTupleGo tg i u=pure ():=by intro _ _; rfl):PI X tg e (tI X.K true (iB f)):=(((sU h).or (yt h)).or (Kv h hgo)).weak fun σ H R aR=>by
 obtain ⟨Z,Θ,env,C,its,env',C',S,hf,q⟩:=aR
 unfold iB at hf
 split at hf
 ·rename_i d e1 C1 h1
  split at hf
  ·rename_i ys hi
   cases hf
   cases d <;> first | cases hi | skip
   ·refine .inr ⟨Z,Θ,env,C,_,env',C',S,h1,fun v H1 k f S1 b=>⟨_,b,q _ H1 k f S1 (LC _)⟩⟩
   ·refine .inl (.inl ⟨Z,Θ,env,C,_,env',C',S,h1,fun v H1 k f S1 b=>?_⟩)
    obtain ⟨a,vs,rfl,ha,r⟩:=b
    exact ⟨a,rfl,⟨vs,cJ.of (bL ha)⟩,q _ H1 k f S1 (tK ha r)⟩
   ·refine .inl (.inr ⟨Z,Θ,env,C,_,env',C',S,h1,fun v H1 k f S1 b=>?_⟩)
    obtain ⟨a,vs,rfl,ha,r⟩:=b
    exact ⟨a,rfl,⟨vs,gw.of (bL ha)⟩,q _ H1 k f S1 (zj ha r)⟩
  ·cases hf
 ·cases hf
theorem Qg {f:FE} (h:PE X e (tE X.K f)) (hgo:∀i u,letOwnedTupleGo tg i u=pure ():=by intro _ _; rfl):PI X tg e (tI X.K false (iV f)):=(((sU h).or (yt h)).or (Kv h hgo)).weak fun σ H R aR=>by
 obtain ⟨Z,Θ,env,C,its,env',C',S,hf,q⟩:=aR
 unfold iV at hf
 split at hf
 ·rename_i r e1 C1 h1
  split at hf
  ·rename_i d hd
   split at hf
   ·rename_i ys hi
    cases hf
    cases d <;> first | cases hi | skip
    ·refine .inr ⟨Z,Θ,env,C,_,env',C',S,h1,fun v H1 k f R=>?_⟩
     obtain ⟨S1,b⟩:=R.lE hd
     exact ⟨_,b,q _ H1 k f S1 (LC _)⟩
    ·refine .inl (.inl ⟨Z,Θ,env,C,_,env',C',S,h1,fun v H1 k f R=>?_⟩)
     obtain ⟨S1,a,vs,rfl,ha,r⟩:=R.lE hd
     exact ⟨a,rfl,⟨vs,cJ.of (bL ha)⟩,q _ H1 k f S1 (tK ha r)⟩
    ·refine .inl (.inr ⟨Z,Θ,env,C,_,env',C',S,h1,fun v H1 k f R=>?_⟩)
     obtain ⟨S1,a,vs,rfl,ha,r⟩:=R.lE hd
     exact ⟨a,rfl,⟨vs,gw.of (bL ha)⟩,q _ H1 k f S1 (zj ha r)⟩
   ·cases hf
  ·cases hf
 ·cases hf
theorem fX {b:Bool} {a:Expr} {f:FB} {p pos:Pos} (hg:Gl X "range") (hm:X.mg "range"=none) (ha:PE X a (jD X.K f)) (hs:starEach [a] X.env=(false,eval a X.env)::starEach [] X.env:=by rfl) (hs':starEach [a] X.env=[(false,eval a X.env)]:=by rfl):PI X tg (.Call (.Name "range" p) [a] [] pos) (tI X.K b (zR f)):=
 (HF hg hm (aM ha aZ hs) hs').weak fun σ H R aR=>by
  obtain ⟨Z,Θ,env,C,its,env',C',S,hf,q⟩:=aR
  unfold zR at hf
  split at hf
  ·rename_i j e1 C1 h1
   split at hf
   ·rename_i hj
    cases hf
    refine ⟨Z,Θ,env,C,[.int j],e1,C',S,by unfold bCons bNil; rw [h1],fun vs H1 k f S1 b1=>?_⟩
    cases b1 with
    | cons b1 b2=>
     cases b2
     exact ⟨j,by rw [show _=V.int j from b1],hj.1,hj.2,q _ H1 k (Fz.refl _) (S.go k S1.cell) (LK 0 j.toNat)⟩
   ·cases hf
  ·cases hf
end
noncomputable def m7 (g:FG) (body:FS):List PyData→FS
 | []=>fun env C=>some (.nx,env,C)
 | d::r=>fun env C=>match g d env with
  | some e1=>match body e1 C with
   | some (.nx,e2,C2)=>m7 g body r e2 C2
   | some (.ct,e2,C2)=>m7 g body r e2 C2
   | some (.bk,e2,C2)=>some (.nx,e2,C2)
   | some (.rt v,e2,C2)=>some (.rt v,e2,C2)
   | none=>none
  | none=>none
noncomputable def fD (fi:FI) (g:FG) (body:FS):FS:=fun env C=>match fi env C with
 | some (its,e1,C1)=>m7 g body its e1 C1
 | none=>none
theorem iH.er {K:PySem.W.Frag} {Z Θ Θ1:List Addr} {env e1:En} {C1:Ce} {σ σ1:St} {H H1:Hp} (p:iH K Z Θ env σ H Θ1 e1 C1 σ1 H1):aV (er (aL Z Θ env σ) H) (er (aL Z Θ1 e1 σ1) H1):=fun b o h=>by
 unfold L2.er at h ⊢
 split at h
 ·cases h
 ·rename_i n
  have hb:H b≠none:=by rw [h]; exact Option.some_ne_none _
  rw [if_neg]
  ·refine p.kp.keep b o h fun m=>n ?_
   rcases List.mem_append.mp m with m | m
   ·exact bI.mpr (.inr (.inl m))
   ·exact bI.mpr (.inr (.inr m))
  ·intro m
   rcases bI.mp m with m | m | m
   ·exact n (bI.mpr (.inl m))
   ·obtain ⟨Δ,e,hn⟩:=p.th.ex
    rw [e] at m
    rcases List.mem_append.mp m with m | m
    ·exact n (bI.mpr (.inr (.inl m)))
    ·exact hb (hn b m)
   ·rcases p.own b m with m | m
    ·exact n (bI.mpr (.inr (.inr m)))
    ·exact hb m
theorem Qh {P P2:List Addr} {H H2:Hp} (s:aV (er P H) (er P2 H2)):aV (er P H) (er P H2):=fun b o h=>by
 have h2:=bL (s b o h)
 unfold er at h ⊢
 split at h
 ·cases h
 ·rename_i n
  rw [if_neg n]
  exact h2
theorem LQ {K:PySem.W.Frag} {fi:FI} {g:TG} {fg:FG} {body:FS} (L:Vu K g fg):∀D σ H,tS K (fD fi fg body) D σ H→VV (tI K false fi) g (tS K body) D σ H:=by
 rintro D σ H ⟨Z,Θ,env,C,fl,env',C',S,hf,q⟩
 unfold fD at hf
 split at hf
 ·rename_i its e1 C1 h1
  refine ⟨Z,Θ,env,C,its,e1,C1,S,h1,fun J H1 k1 f1 S1 it=>?_⟩
  have p1:=iH.Gx k1 f1 S1
  refine ⟨fun i m σ2 H2=>m=its.length - i∧i≤its.length∧∃Θ2 e2 C2,iH K Z Θ e1 σ H1 Θ2 e2 C2 σ2 H2∧m7 fg body (its.drop i) e2 C2=some (fl,env',C'),⟨its.length,rfl,Nat.zero_le _,Θ,e1,C1,iH.same S1,hf⟩,?_⟩
  rintro i m σ2 H2 ⟨rfl,hi,Θ2,e2,C2,p2,hl⟩
  obtain ⟨U3,U4⟩:=it i H2 (aL Z Θ2 e2 σ2) p2.er (Qh p2.er) p2.sm.yO
  cases hd:its[i]? with
  | none=>
   have hi2:i=its.length:=by
    have:=List.getElem?_eq_none_iff.mp hd
    omega
   rw [hi2,List.drop_length] at hl
   cases hl
   exact .inl ⟨U4 hi2,q Θ2 σ2 H2 (p1.trans p2)⟩
  | some d=>
   have hlt:i < its.length:=(List.getElem?_eq_some_iff.mp hd).1
   have ed:its.drop i=d::its.drop (i + 1):=by
    rw [List.drop_eq_getElem_cons hlt]
    obtain ⟨_,e⟩:=List.getElem?_eq_some_iff.mp hd
    rw [e]
   rw [ed] at hl
   unfold m7 at hl
   obtain ⟨go,yl⟩:=U3 d hd
   refine .inr ⟨go,fun σ' H'=>∃Θ2 e2 C2,iH K Z Θ e1 σ H1 Θ2 e2 C2 σ' H'∧m7 fg body (its.drop (i + 1)) e2 C2=some (fl,env',C'),fun σ' H' h=>⟨its.length - (i + 1),by omega,rfl,hlt,h⟩,fun x H3 y=>?_⟩
   obtain ⟨s3,r3⟩:=yl x H3 y
   have S3:=p2.sm.uy s3
   have p3:=p2.trans (iH.Gx (bK.of s3) (Fz.refl _) S3)
   split at hl
   ·rename_i e4 h4
    refine L Z Θ2 e2 C2 σ2 H3 x d e4 S3 r3 h4 _ fun σ4 S4 o4=>?_
    have p4:iH K Z Θ e1 σ H1 Θ2 e4 C2 σ4 H3:=p3.trans ⟨zc.refl _ _,bK.refl _ _,fun a m=>.inl (o4 a m),S4⟩
    split at hl
    ·rename_i e5 C5 h5
     exact ⟨Z,Θ2,e4,C2,.nx,e5,C5,S4,h5,fun Θ5 σ5 H5 p5=>⟨Θ5,e5,C5,p4.trans p5,hl⟩⟩
    ·rename_i e5 C5 h5
     exact ⟨Z,Θ2,e4,C2,.ct,e5,C5,S4,h5,fun Θ5 σ5 H5 p5=>⟨Θ5,e5,C5,p4.trans p5,hl⟩⟩
    ·rename_i e5 C5 h5
     cases hl
     exact ⟨Z,Θ2,e4,C2,.bk,env',C',S4,h5,fun Θ5 σ5 H5 p5=>q Θ5 σ5 H5 (p1.trans (p4.trans p5))⟩
    ·rename_i r e5 C5 h5
     cases hl
     exact ⟨Z,Θ2,e4,C2,.rt r,env',C',S4,h5,fun Θ5 v H5 p5=>q Θ5 v H5 (p1.ret (p4.ret p5))⟩
    ·cases hl
   ·cases hl
 ·cases hf
theorem fG {X:Cx} {pos:Pos} {tg iter:Expr} {body:List Stmt} {fi:FI} {g:TG} {fg:FG} {f:FS} (hp:PassesOwn (model X.prog X.w) X.A X.env X.xe) (hc:X.calm=true) (hi:PI X tg iter (tI X.K false fi)) (hg:PG X tg g) (L:Vu X.K g fg) (hb:sJ X body (tS X.K f))
  (hs:∀x,foldedSetIterable iter X.env x=pure x:=by intro _; rfl):PS X (.For tg iter body [] pos) (tS X.K (fD fi fg f)):=(Tj hp hc hi hg hb hs).weak (LQ L)
end L2
namespace L2
open PySem PySem.Spec PyProof.Rows PySem.W
noncomputable def RV:mW→PyData→Option (List PyData)
 | .one,d=>some [d]
 | .many n,.tuple ds=>if ds.length=n then some ds else none
 | _,_=>none
noncomputable def frB (js:List Nat) (env:En):En:=js.map fun j=>((env[j]?).join).map still
noncomputable def jm (ds:List PyData):En:=ds.map fun d=>some (.im d)
noncomputable def cQ (T:mW) (ft:FT) (fe:FE) (fs:En):List PyData→Ce→Option (List PyData×Ce)
 | [],C=>some ([],C)
 | d::r,C=>match RV T d with
  | some ts=>match ft (jm ts++fs) C with
   | some (false,C1)=>cQ T ft fe fs r C1
   | some (true,C1)=>match fe (jm ts++fs) C1 with
    | some (x,_,C2)=>match still x with
     | .im y=>match cQ T ft fe fs r C2 with
      | some (ys,C3)=>some (y::ys,C3)
      | none=>none
     | _=>none
    | none=>none
   | none=>none
  | none=>none
noncomputable def mO (js:List Nat) (env:En):En:=env.mapIdx fun i x=>if i∈js then x.map still else x
noncomputable def fLC (fi:FI) (T:mW) (ft:FT) (fe:FE) (js:List Nat):FE:=fun env C=>match fi env C with
 | some (its,e1,C1)=>match cQ T ft fe (frB js e1) its C1 with
  | some (ys,C2)=>if ys.length≤LIM then some (.ow (.list ys),if iC ys then e1 else mO js e1,C2) else none
  | none=>none
 | none=>none
theorem RW:∀{a b:En},a.length=b.length→(∀(i:Nat) (x y:Option Vl),a[i]?=some x→b[i]?=some y→Zd x y)→Fz a b
 | [],[],_,_=>trivial
 | x::r,y::t,hl,h=>⟨h 0 x y rfl rfl,RW (by simpa using hl) fun i u v h1 h2=>h (i + 1) u v (by simpa using h1) (by simpa using h2)⟩
 | [],_::_,hl,_=>by cases hl
 | _::_,[],hl,_=>by cases hl
theorem lK (js:List Nat) (env:En):Fz env (mO js env):=RW (by unfold mO; rw [List.length_mapIdx]) fun i x y h1 h2=>by
 unfold mO at h2
 rw [List.getElem?_mapIdx,h1] at h2
 have h2:(if i∈js then Option.map still x else x)=y:=Option.some.inj h2
 rw [←h2]
 split
 ·cases x with
  | none=>exact .inl rfl
  | some x=>
   cases x with
   | ow d=>exact .inr ⟨d,rfl,rfl⟩
   | im d=>exact .inl rfl
   | ce n=>exact .inl rfl
   | sc ns=>exact .inl rfl
 ·exact .inl rfl
theorem LR {js:List Nat} {env:En} {k:Nat} {x:Vl} (h:(frB js env)[k]?=some (some x)):∃j:Nat,js[k]?=some j∧(mO js env)[j]?=some (some x)∧∀d,x≠.ow d:=by
 unfold frB at h
 rw [List.getElem?_map] at h
 cases hj:js[k]? with
 | none=>rw [hj] at h; cases h
 | some j=>
  rw [hj] at h
  have h':((env[j]?).join).map still=some x:=Option.some.inj h
  refine ⟨j,rfl,?_,?_⟩
  ·unfold mO
   rw [List.getElem?_mapIdx]
   cases hv:env[j]? with
   | none=>rw [hv] at h'; cases h'
   | some y=>
    rw [hv] at h'
    show some (if j∈js then Option.map still y else y)=_
    rw [if_pos (List.mem_of_getElem? hj)]
    exact congrArg some h'
  ·cases hv:(env[j]?).join with
   | none=>rw [hv] at h'; cases h'
   | some y=>
    rw [hv] at h'
    have e:still y=x:=Option.some.inj h'
    rw [←e]
    intro d z
    cases y <;> cases z
theorem jH:∀{env:En} {σ:St},(∀(i:Nat) (d:PyData),env[i]?≠some (some (.ow d)))→aY env σ=[]
 | [],σ,_=>by cases σ <;> rfl
 | _::_,[],_=>rfl
 | x::e,v::s,h=>by
  rw [aY,jH (env:=e) (σ:=s) fun i d z=>h (i + 1) d (by simpa using z)]
  have h0:=h 0
  simp at h0
  unfold own1
  split
  ·rename_i d a
   exact absurd rfl (h0 d)
  ·rfl
section
variable {K:PySem.W.Frag} {Z Θ:List Addr} {env:En} {C C2:Ce} {σ:St} {H H2:Hp} {D:Addr}
noncomputable abbrev jJ (D:Addr) (Z:List Addr) (env:En) (σ:St):List Addr:=D::(Z++aY env σ)
theorem dR {js:List Nat} {a:Addr} {eB:En} {sB:St} (h:aY eB sB=[]):a∈aL (jJ D Z env σ) Θ eB sB ↔ a=D∨a∈aL Z Θ env σ:=by
 rw [bI,bI,h,List.mem_cons,List.mem_append]
 constructor
 ·rintro ((h | h | h) | h | h)
  ·exact .inl h
  ·exact .inr (.inl h)
  ·exact .inr (.inr (.inr h))
  ·exact .inr (.inr (.inl h))
  ·nomatch h
 ·rintro (h | h | h | h)
  ·exact .inl (.inl h)
  ·exact .inl (.inr (.inl h))
  ·exact .inr (.inl h)
  ·exact .inl (.inr (.inr h))
theorem nM {js:List Nat} {ts:List PyData}:∀(i:Nat) (d:PyData),(jm ts++frB js env)[i]?≠some (some (.ow d)):=fun i d z=>by
 by_cases hi:i < (jm ts).length
 ·rw [List.getElem?_append_left hi] at z
  unfold jm at z
  rw [List.getElem?_map] at z
  cases h:ts[i]? with
  | none=>rw [h] at z; cases z
  | some t=>rw [h] at z; cases z
 ·rw [List.getElem?_append_right (by omega)] at z
  obtain ⟨j,_,_,h⟩:=LR z
  exact h d rfl
theorem Sm.blk {js:List Nat} {ts:List PyData} {vs:List V} (S:Sm K Z Θ (mO js env) C σ H) (hD:H D=Option.none) (k:bK Θ H H2) (nt:NT (H2 D)) (c:dW Θ C2 H2) (r:dJ (er (aL (jJ D Z (mO js env) σ) Θ [] []) H2) ts vs):
  Sm K (jJ D Z (mO js env) σ) Θ (jm ts++frB js env) C2 (vs.map some++frees js σ) H2:=by
 have no:=jH (env:=jm ts++frB js env) (σ:=vs.map some++frees js σ) nM
 have iD:=S.iD
 have lv:=bT r
 have X3:(jm ts).length=ts.length:=by unfold jm; rw [List.length_map]
 have ee:er (aL (jJ D Z (mO js env) σ) Θ (jm ts++frB js env) (vs.map some++frees js σ)) H2=er (aL (jJ D Z (mO js env) σ) Θ [] []) H2:=gj fun a=>by rw [dR (js:=js) no,dR (js:=js) rfl]
 have sm:aV (er (aL Z Θ (mO js env) σ) H) (er (aL (jJ D Z (mO js env) σ) Θ [] []) H2):=dZ k S.Gi fun b m=>by
  rcases (dR (js:=js) rfl).mp m with rfl | m
  ·exact .inr hD
  ·exact .inl m
 refine ⟨?_,?_,fun b m=>?_,fun i x e=>?_,c⟩
 ·rw [List.length_append,List.length_append,List.length_map,lv,X3]
  unfold frees frB
  rw [List.length_map,List.length_map]
 ·show (jJ D Z (mO js env) σ++(Θ++aY (jm ts++frB js env) (vs.map some++frees js σ))).Nodup
  rw [no]
  refine UJ (List.nodup_cons.mpr ⟨fun m=>?_,?_⟩) iD.2.1 List.nodup_nil (fun b m m'=>?_) (fun _ m=>nomatch m)
  ·rcases List.mem_append.mp m with m | m
   ·exact (S.dom D m).ne hD
   ·exact S.yO D (bI.mpr (.inr (.inr m))) hD
  ·rw [List.nodup_append]
   exact ⟨iD.1,iD.2.2.1,fun b m c' m' e=>by subst e; exact (S.dX m').1 m⟩
  ·rcases List.mem_cons.mp m with rfl | m
   ·exact S.yO b (bI.mpr (.inr (.inl m'))) hD
   ·rcases List.mem_append.mp m with m | m
    ·exact iD.2.2.2 b m m'
    ·exact (S.dX m).2 m'
 ·rcases List.mem_cons.mp m with rfl | m
  ·exact nt
  ·have:NT (H b)∧b∉Θ:=by
    rcases List.mem_append.mp m with m | m
    ·exact ⟨S.dom b m,iD.2.2.2 b m⟩
    ·exact ⟨S.XR b (bI.mpr (.inr (.inr m))),(S.dX m).2⟩
   obtain ⟨⟨u,e,n⟩,nb⟩:=this
   exact ⟨u,k.keep _ _ e nb,n⟩
 ·rw [ee]
  by_cases hi:i < ts.length
  ·rw [List.getElem?_append_left (by rw [X3]; exact hi)] at e
   unfold jm at e
   rw [List.getElem?_map] at e
   cases ht:ts[i]? with
   | none=>rw [ht] at e; cases e
   | some t=>
    rw [ht] at e
    cases e
    obtain ⟨v,ev,rv⟩:=nG r ht
    exact ⟨v,by rw [List.getElem?_append_left (by rw [List.length_map,lv]; exact hi),List.getElem?_map,ev]; rfl,rv⟩
  ·rw [List.getElem?_append_right (by rw [X3]; omega),X3] at e
   obtain ⟨j,hj,hx,nx⟩:=LR e
   obtain ⟨v,ev,rv⟩:=S.slot j x hx
   refine ⟨v,?_,rv.same sm fun d _ z=>absurd z (nx d)⟩
   rw [List.getElem?_append_right (by rw [List.length_map,lv]; omega),List.length_map,lv]
   unfold frees
   rw [List.getElem?_map,hj]
   show some ((σ[j]?).join)=_
   rw [ev]
   rfl
end
noncomputable def fY:FT:=fun _ C=>some (true,C)
theorem gJ {X:Cx}:Ck X [] (kh X.K fY):=fun pins s σ H Q I aR=>by
 obtain ⟨Z,Θ,env,C,b,C',S,hf,q⟩:=aR
 cases hf
 exact O5 pins s σ H Q I (q H (bK.refl _ _) S)
theorem pC {X:Cx} {c:Expr} {f:FT} (h:PT X c (kh X.K f)):Ck X [c] (kh X.K f):=O6 h
theorem Ma {K:PySem.W.Frag} {T:mW} {E H:Hp} {d:PyData} {x:V} {ts:List PyData} (h:RV T d=some ts) (r:RZ E d x) (s:aV E H):∃vs,Rw K T x H vs∧dJ E ts vs:=by
 cases T with
 | one=>cases h; exact ⟨[x],rfl,x,[],rfl,r,rfl⟩
 | many n=>
  cases d <;> first | cases h | skip
  rename_i ds
  have h:(if ds.length=n then some ds else none)=some ts:=h
  split at h
  ·rename_i hl
   cases h
   obtain ⟨a,vs,rfl,ha,r⟩:=r
   exact ⟨vs,⟨a,rfl,gw.of (s _ _ ha),(bT r).trans hl⟩,r⟩
  ·cases h
theorem GJ {K:PySem.W.Frag} {fi:FI} {T:mW} {ft:FT} {fe:FE} {js:List Nat}:∀σ H Q,tE K (fLC fi T ft fe js) σ H Q→Y0 K (tI K true fi) T (fun _=>kh K ft) (fun _=>tE K fe) js σ H Q:=by
 rintro σ H Q ⟨Z,Θ,env,C,res,env',C',S,hf,q⟩
 unfold fLC at hf
 split at hf
 case h_2=>cases hf
 rename_i its e1 C1 h1
 split at hf
 case h_2=>cases hf
 rename_i ys C2 h2
 split at hf
 case isFalse=>cases hf
 rename_i hl
 cases hf
 refine ⟨Z,Θ,env,C,its,e1,C1,S,h1,fun J H1 k1 f1 S1 it D hD b=>?_⟩
 have N5:=S1.fz (lK js e1)
 have it':wu (aL Z Θ e1 σ) Θ H1 J its:=it
 let PB:=aL (jJ D Z (mO js e1) σ) Θ [] []
 have Bj:∀a,a∈PB ↔ a=D∨a∈aL Z Θ (mO js e1) σ:=fun a=>dR (js:=js) rfl
 have Zj:D∈PB:=(Bj D).mpr (.inl rfl)
 refine ⟨fun i m H2=>m=its.length - i∧i≤its.length∧∃acc fj C2 ys',bK Θ H1 H2∧dW Θ C2 H2∧H2 D=some (.lst fj)∧dJ (er PB H2) acc fj∧cQ T ft fe (frB js e1) (its.drop i) C2=some (ys',C')∧acc++ys'=ys,
  ⟨its.length,rfl,Nat.zero_le _,[],[],C1,ys,bK.upd hD,⟨S1.cell.len,fun n b ns e2 e3=>?_⟩,aK,rfl,h2,rfl⟩,?_⟩
 ·have:=S1.cell.at_ n b ns e2 e3
  rw [aO (bC this hD)]
  exact this
 rintro i m H2 ⟨rfl,hi,acc,fj,Ci,ys',ki,ci,hDi,ri,hc,ea⟩
 have W5:aV (er (aL Z Θ e1 σ) H1) (er PB H2):=dZ ki S1.Gi fun b m=>by
  rcases (Bj b).mp m with rfl | m
  ·exact .inr hD
  ·exact .inl ((lK js e1).sub b m)
 have W6:Sm K (jJ D Z (mO js e1) σ) Θ (jm []++frB js e1) Ci (([]:List V).map some++frees js σ) H2:=N5.blk hD ki ⟨_,hDi,fun _ z=>nomatch z⟩ ci (show dJ _ [] [] from rfl)
 have Mf:∀a∈PB,H2 a≠none:=fun a m=>by
  have:=W6.yO a ((dR (js:=js) (jH (env:=jm []++frB js e1) nM)).mpr ((Bj a).mp m))
  exact this
 obtain ⟨U3,U4⟩:=it' i H2 PB W5 (yP ki) Mf
 cases hd:its[i]? with
 | none=>
  have hi2:i=its.length:=by
   have:=List.getElem?_eq_none_iff.mp hd
   omega
  rw [hi2,List.drop_length] at hc
  cases hc
  rw [List.append_nil] at ea
  subst ea
  refine .inl ⟨U4 hi2,q _ H2 (k1.trans ki) ?_ ?_⟩
  ·split
   ·exact f1
   ·exact f1.trans (lK js e1)
  ·refine ⟨D,rfl,k1.none hD,?_⟩
   split
   ·rename_i hn
    have SD:=S1.Bd hD ki ⟨_,hDi,fun _ z=>nomatch z⟩ ci
    exact ⟨SD,fj,hDi,ri.yN (fun a vs e=>uD SD (bL e)) hn⟩
   ·have SD:=N5.Bd hD ki ⟨_,hDi,fun _ z=>nomatch z⟩ ci
    refine ⟨SD,fj,hDi,?_⟩
    have:er PB H2=er (aL (D::Z) Θ (mO js e1) σ) H2:=gj fun a=>by
     rw [Bj]
     show _ ↔ a∈D::aL Z Θ (mO js e1) σ
     rw [List.mem_cons]
    rw [←this]
    exact ri
 | some d=>
  have hlt:i < its.length:=(List.getElem?_eq_some_iff.mp hd).1
  have ed:its.drop i=d::its.drop (i + 1):=by
   rw [List.drop_eq_getElem_cons hlt]
   obtain ⟨_,e⟩:=List.getElem?_eq_some_iff.mp hd
   rw [e]
  rw [ed] at hc
  unfold cQ at hc
  obtain ⟨go,yl⟩:=U3 d hd
  refine .inr ⟨go,fun x H3 y=>?_⟩
  obtain ⟨s3,r3⟩:=yl x H3 y
  split at hc
  case h_2=>cases hc
  rename_i ts ht
  obtain ⟨vs,tv,rvs⟩:=Ma (K:=K) ht r3 (rJ _ _)
  refine ⟨vs,tv,?_⟩
  have k3:bK Θ H1 H3:=ki.trans (bK.of s3)
  have Jh:H3 D=some (.lst fj):=s3 _ _ hDi
  have c3:dW Θ Ci H3:=⟨ci.len,fun n b ns e2 e3=>s3 _ _ (ci.at_ n b ns e2 e3)⟩
  have r3':dJ (er PB H3) acc fj:=ri.same (sX s3)
  have SB:Sm K (jJ D Z (mO js e1) σ) Θ (jm ts++frB js e1) Ci (vs.map some++frees js σ) H3:=N5.blk hD k3 ⟨_,Jh,fun _ z=>nomatch z⟩ c3 rvs
  have ePB:∀Hx,er (aL (jJ D Z (mO js e1) σ) Θ (jm ts++frB js e1) (vs.map some++frees js σ)) Hx=er PB Hx:=fun Hx=>gj fun a=>by rw [dR (js:=js) (jH nM),Bj]
  have wA:D∉Θ:=fun m=>(S1.cell.dom D m).ne hD
  have stay:∀{Hx Hy:Hp},bK Θ Hx Hy→Hx D=some (.lst fj)→dJ (er PB Hx) acc fj→Hy D=some (.lst fj)∧dJ (er PB Hy) acc fj:=fun {Hx Hy} kk h1 h2=>
   ⟨kk.keep _ _ h1 wA,h2.same (dZ kk (fun a m=>(Bj a).mpr (.inr (bI.mpr (.inr (.inl m))))) fun a m=>.inl m)⟩
  split at hc
  ·rename_i Ct Mg
   refine ⟨_,Θ,_,Ci,false,Ct,SB,Mg,fun H4 k4 S4=>vW ⟨its.length - (i + 1),by omega,rfl,hlt,acc,fj,Ct,ys',k3.trans k4,S4.cell,(stay k4 Jh r3').1,(stay k4 Jh r3').2,hc,ea⟩⟩
  ·rename_i Ct Mg
   split at hc
   case h_2=>cases hc
   rename_i xr eB CB hfe
   split at hc
   case h_2=>cases hc
   rename_i yd W7
   split at hc
   case h_2=>cases hc
   rename_i zs Cz hzs
   cases hc
   refine ⟨_,Θ,_,Ci,true,Ct,SB,Mg,fun H4 k4 S4=>vX ⟨_,Θ,_,Ct,xr,eB,CB,S4,hfe,fun y H5 k5 f5 R5=>?_⟩⟩
   obtain ⟨S5,r5⟩:=R5.lE W7
   obtain ⟨Zk,r4⟩:=stay k4 Jh r3'
   obtain ⟨W8,X4⟩:=stay k5 Zk r4
   have Zm:aY eB (vs.map some++frees js σ)=[]:=by
    have:=(Fz.own (σ:=vs.map some++frees js σ) f5)
    rw [jH nM] at this
    exact List.sublist_nil.mp this
   have e5:er (aL (jJ D Z (mO js e1) σ) Θ eB (vs.map some++frees js σ)) H5=er PB H5:=gj fun a=>by rw [dR (js:=js) Zm,Bj]
   rw [e5] at r5
   have la:=bT X4
   have lt:acc.length < LIM∧True:=by
    have:=congrArg List.length ea
    rw [List.length_append,List.length_cons] at this
    exact ⟨by omega,trivial⟩
   refine ⟨fj,W8,by rw [la,sizeLine_eq]; have:=lt.1; unfold LIM at this; omega,its.length - (i + 1),by omega,rfl,hlt,acc++[yd],fj++[y],CB,zs,?_,?_,aK,?_,hzs,by rw [←ea,List.append_assoc]; rfl⟩
   ·have kk:=(k3.trans k4).trans k5
    refine ⟨fun a o ha na=>?_,fun a ha=>?_⟩
    ·rw [aO (bC ha hD)]
     exact kk.keep _ _ ha na
    ·by_cases z:a=D
     ·subst z; rw [aK]; exact Option.some_ne_none _
     ·rw [aO z]; exact kk.dom a ha
   ·refine ⟨S5.cell.len,fun n b ns e2 e3=>?_⟩
    rw [aO]
    ·exact S5.cell.at_ n b ns e2 e3
    ·intro z
     subst z
     exact wA (List.mem_of_getElem? e2)
   ·rw [DN Zj]
    exact mK X4 ⟨y,[],rfl,r5,rfl⟩
  ·cases hc
section
variable {X:Cx} {NT NF:List Str} {js:List Nat} {elt tg iter:Expr} {ifs:List Expr} {T:mW} {fi:FI} {ft:FT} {fe:FE} {scope:Scope} {pos:Pos}
theorem pD (B:jt X NT NF js scope) (tk:oU tg NT T) (hc:X.calm=true) (hi:PI X tg iter (tI X.K true fi))
  (hin:∀b,Ck (X.bk (NT++NF) scope b) ifs (kh X.K ft)∧PE (X.bk (NT++NF) scope b) elt (tE X.K fe))
  (hs:∀x,foldedSetIterable iter X.env x=pure x:=by intro _; rfl):PE X (.ListComp elt [⟨tg,iter,ifs,0⟩] scope pos) (tE X.K (fLC fi T ft fe js)):=(Wn B tk hc hi hin hs).weak GJ
theorem uL {i:Nat} {y:Str} {pos' spos:Pos} (B:jt X NT NF js scope) (tk:oU tg NT T) (hc:X.calm=true) (hi:PI X tg iter (tI X.K true fi))
  (hin:∀b,Ck (X.bk (NT++NF) scope b) ifs (kh X.K ft)∧PE (X.bk (NT++NF) scope b) elt (tE X.K fe))
  (hsw:swapsWith (.ListComp elt [⟨tg,iter,ifs,0⟩] scope pos) (some (.Name y pos')) spos.line X.env=pure true) (hN:X.N.Nodup) (hI:X.N[i]?=some y) (hy:X.env.scope.names.lookup y=some .local)
  (hs:∀x,foldedSetIterable iter X.env x=pure x:=by intro _; rfl):PS X (.Assign [.Name y pos'] (.ListComp elt [⟨tg,iter,ifs,0⟩] scope pos) spos) (tS X.K (fSet i (fLC fi T ft fe js))):=(Ks B tk hc hi hin hsw hN hI hy hs).weak (uJ GJ)
end
end L2
namespace L2
open PySem PySem.Spec PyProof.Rows PySem.W
noncomputable def Bl (n:Nat):Vl→Bool
 | .ce m=>decide (m < n)
 | _=>true
noncomputable def fN (k n:Nat) (body:FS):FN:=fun xs C=>if xs.length=k then match body (xs.map some++List.replicate (n - xs.length) none) C with
  | some (.rt r,_,C')=>if Bl C.length r then some (r,C'.take C.length) else none
  | some (.nx,_,C')=>some (.im .none,C'.take C.length)
  | _=>none
 else none
section
variable {K:PySem.W.Frag} {Z Θ:List Addr} {C:Ce} {H:Hp} {xs:List Vl} {vs:List V}
theorem uM {E:Hp} (a:gh K E Θ xs vs):vs.length=xs.length:=by
 induction a with
 | nil=>rfl
 | cons _ _ ih=>rw [List.length_cons,List.length_cons,ih]
theorem Qi {E:Hp} (a:gh K E Θ xs vs):∀{i:Nat} {x:Vl},xs[i]?=some x→∃v,vs[i]?=some v∧pA K E Θ x v:=by
 induction a with
 | nil=>intro i x e; simp at e
 | cons h _ ih=>
  intro i x e
  cases i with
  | zero=>simp at e; subst e; exact ⟨_,rfl,h⟩
  | succ i=>
   obtain ⟨v,e2,h2⟩:=ih (i:=i) (by simpa using e)
   exact ⟨v,by simpa using e2,h2⟩
theorem Sm.start {n:Nat} (S:Sm K Z Θ [] C [] H) (a:gh K (er (aL Z Θ [] []) H) Θ xs vs):Sm K Z Θ (xs.map some++List.replicate n Option.none) C (vs.map some++List.replicate n Option.none) H∧aY (xs.map some++List.replicate n Option.none) (vs.map some++List.replicate n Option.none)=[]:=by
 have lv:=uM a
 have at':∀{i:Nat} {x:Vl},(xs.map some++List.replicate n Option.none)[i]?=some (some x)→∃v,vs[i]?=some v∧pA K (er (aL Z Θ [] []) H) Θ x v∧i < vs.length:=fun {i x} e=>by
  by_cases hi:i < xs.length
  ·rw [List.getElem?_append_left (by rw [List.length_map]; exact hi),List.getElem?_map] at e
   cases hx:xs[i]? with
   | none=>rw [hx] at e; cases e
   | some y=>
    rw [hx] at e
    cases e
    obtain ⟨v,e1,h⟩:=Qi a hx
    exact ⟨v,e1,h,by rw [lv]; exact hi⟩
  ·rw [List.getElem?_append_right (by rw [List.length_map]; omega)] at e
   have:=List.mem_of_getElem? e
   exact nomatch (List.eq_of_mem_replicate this)
 have no:aY (xs.map some++List.replicate n Option.none) (vs.map some++List.replicate n Option.none)=[]:=jH fun i d e=>by
  obtain ⟨v,_,h,_⟩:=at' e
  exact h
 refine ⟨⟨by simp [lv],?_,S.dom,fun i x e=>?_,S.cell⟩,no⟩
 ·show (Z++(Θ++aY _ _)).Nodup
  rw [no]
  exact S.nd
 ·obtain ⟨v,e1,h,hl⟩:=at' e
  refine ⟨v,by rw [List.getElem?_append_left (by rw [List.length_map]; exact hl),List.getElem?_map,e1]; rfl,?_⟩
  have ee:er (aL Z Θ (xs.map some++List.replicate n Option.none) (vs.map some++List.replicate n Option.none)) H=er (aL Z Θ [] []) H:=by
   show er (Z++(Θ++aY _ _)) H=_
   rw [no]
   rfl
  rw [ee]
  cases x with
  | im d=>exact h
  | ow d=>exact h.elim
  | ce m=>exact h
  | sc ns=>exact h
theorem Sm.cut {Δ:List Addr} (S:Sm K Z (Θ++Δ) [] C [] H):Sm K Z Θ [] (C.take Θ.length) [] H:=by
 have iD:=S.iD
 have cl:=S.cell.len
 rw [List.length_append] at cl
 refine ⟨rfl,UJ iD.1 (List.nodup_append.mp iD.2.1).1 List.nodup_nil (fun b m m'=>iD.2.2.2 b m (List.mem_append_left _ m')) (fun _ m=>nomatch m),S.dom,fun i x e=>by simp at e,⟨by rw [List.length_take]; omega,fun n a ns e1 e2=>?_⟩⟩
 have hn:n < Θ.length:=(List.getElem?_eq_some_iff.mp e1).1
 rw [List.getElem?_take,if_pos hn] at e2
 exact S.cell.at_ n a ns (by rw [List.getElem?_append_left hn]; exact e1) e2
theorem Gw.cut {Θ':List Addr} {H':Hp} {C':Ce} {O:List Addr} {r:Vl} {v:V} (t:zc Θ Θ' H) (ok:Bl Θ.length r=true) (no:O=[]) (h:Gw K Z Θ' C' O H H' r v):Res K Z Θ [] (C'.take Θ.length) [] H H' r v:=by
 obtain ⟨Δ,rfl,hn⟩:=t.ex
 have sm:∀{Y:List Addr},aV (er (aL Y (Θ++Δ) [] []) H') (er (aL Y Θ [] []) H'):=fun {Y}=>jf fun a m=>by
  rcases bI.mp m with m | m | m
  ·exact bI.mpr (.inl m)
  ·exact bI.mpr (.inr (.inl (List.mem_append_left _ m)))
  ·nomatch m
 cases r with
 | im d=>exact ⟨h.1.cut,h.2.same sm⟩
 | ow d=>
  obtain ⟨a,e,m,S,r⟩:=h
  refine ⟨a,e,?_,S.cut,r.same sm fun _ h=>h⟩
  rcases m with m | m
  ·rw [no] at m; nomatch m
  ·exact m
 | ce n=>
  obtain ⟨S,a,e,e2⟩:=h
  refine ⟨S.cut,a,e,?_⟩
  rw [List.getElem?_append_left (of_decide_eq_true ok)] at e2
  exact e2
 | sc ns=>
  obtain ⟨S,a,e,q⟩:=h
  exact ⟨S.cut,a,e,sm.seq q⟩
end
section
variable {P:Program} {w:World} {K:PySem.W.Frag} {mg:Str→Option Value} {base:Heap}
theorem gB {x qual:Str} {st:Stmt} {f:Addr} {fd:FuncData} {N ps:List Str} {k:Nat} {body:FS} {k1 k2:Nat} (F:ue K x qual st f fd) (S:cg N ps (aC st))
  (hb:∀(cdv:Value) (A:Around) (outer:List Env) (s:Shared) (H:Hp) (E:XK),fB k (A.deeper (envOfC qual (aC st) s.heap.objs.size f cdv))→sJ (CP rD P w K mg base N qual (aC st) f cdv A outer s H E).Og (bR st) (tS K body))
  (e1:k1=ps.length:=by rfl) (e2:k2=N.length:=by rfl):dD P w K mg base rD (k + 1) f fd ps (spT K (fN k1 k2 body)):=by
 subst e1 e2
 refine F.ok S (fun vs H Q E h=>?_) (fun cdv A outer s H vs Q E hr h=>⟨_,hb cdv A outer s H E hr,?_⟩)
 ·obtain ⟨Z,Θ,C,xs,r,C',S0,a,hf,_⟩:=h
  unfold fN at hf
  split at hf
  ·rename_i hl; rw [uM a,hl]
  ·cases hf
 ·obtain ⟨Z,Θ,C,xs,r,C',S0,a,hf,q⟩:=h
  unfold fN at hf
  split at hf
  case isFalse=>cases hf
  rename_i hl
  have lv:=uM a
  obtain ⟨S1,no⟩:=S0.start (n:=N.length - vs.length) a
  rw [lv] at S1 no
  have hs:start N vs=vs.map some++List.replicate (N.length - xs.length) none:=by unfold start; rw [lv]
  rw [hs]
  have cl:=S0.cell.len
  split at hf
  ·rename_i r0 e' C1 hb'
   split at hf
   ·rename_i hok
    cases hf
    refine ⟨Z,Θ,_,C,.rt r,e',C1,S1,hb',fun Θ' v H' R=>?_⟩
    have kp:=R.kp
    rw [no,List.append_nil] at kp
    rw [cl] at q hok
    exact q v H' kp (R.ok.cut R.th hok no)
   ·cases hf
  ·rename_i e' C1 hb'
   cases hf
   refine ⟨Z,Θ,_,C,.nx,e',C1,S1,hb',fun Θ' σ' H' R=>?_⟩
   have kp:=R.kp
   rw [no,List.append_nil] at kp
   obtain ⟨Δ,e,hn⟩:=R.th.ex
   have S2:=R.sm.none
   rw [e] at S2
   rw [cl] at q
   exact q .non H' kp ⟨S2.cut,rfl⟩
  ·cases hf
theorem U5 {f:FN} {C':Ce} {H:Hp} {a:Addr} {ns:List Int} {E:XK} (hS:cJ K H a (ns.map V.int)) (h:f [.sc ns] []=some (.im (.bool true),C')):spT K f [.ref a] H (fun v _=>v=.bl true) E:=by
 refine ⟨[],[],[],[.sc ns],_,C',⟨rfl,List.nodup_nil,(fun _ m=>nomatch m),fun i x e=>by simp at e,⟨rfl,fun n b ms e _=>by simp at e⟩⟩,.cons ⟨a,rfl,?_⟩ .nil,h,fun v H' _ R=>R.2⟩
 show cJ K (er [] H) a _
 rw [ur]
 exact hS
end
noncomputable def rN (i:Nat):FE:=fun env C=>match env[i]? with
 | some (some (.sc ns))=>some (.im (.int ns.length),env,C)
 | _=>none
noncomputable def Mh (i:Nat) (f:FB):FE:=fun env C=>match env[i]? with
 | some (some (.sc ns))=>match f env C with
  | some (.int k,_,C1)=>match gC ns k with
   | some z=>some (.im (.int z),env,C1)
   | none=>none
  | _=>none
 | _=>none
section
variable {X:Cx} {o k:Expr} {i:Nat} {p pos:Pos}
theorem GK (ho:PE X o (tW i)) (hg:Gl X "len") (hm:X.mg "len"=none) (hv:bootBuiltins "len"=some (.builtin "len"))
  (he:starEach [o] X.env=(false,eval o X.env)::starEach [] X.env:=by rfl) (hpl:(backTo pos (starEach [] X.env)).any (·.1)=false:=by rfl):PE X (.Call (.Name "len" p) [o] [] pos) (tE X.K (rN i)):=
 (oH oM hg hm hv (dw ho jb he) (by decide) (by decide) he hpl).weak fun σ H Q aR=>by
  obtain ⟨Z,Θ,env,C,r,env',C',S,hf,q⟩:=aR
  unfold rN at hf
  split at hf
  ·rename_i ns h0
   cases hf
   obtain ⟨v,ev,a,rfl,sq⟩:=S.slot i _ h0
   have:=q (.int ns.length) H (bK.refl _ _) (Fz.refl _) ⟨S,rfl⟩
   exact ⟨_,ev,a,_,rfl,.inl ((rJ _ _).seq sq),by rw [List.length_map]; exact this⟩
  ·cases hf
theorem U6 {f:FB} (ho:PE X o (tW i)) (hk:PE X k (jD X.K f)) (hs:sV k):PE X (.Subscript o k pos) (tE X.K (Mh i f)):=(Ka yD ho hk hs).weak fun σ H Q aR=>by
 obtain ⟨Z,Θ,env,C,r,env',C',S,hf,q⟩:=aR
 unfold Mh at hf
 split at hf
 case h_2=>cases hf
 rename_i ns h0
 split at hf
 case h_2=>cases hf
 rename_i z e1 C1 h1
 split at hf
 case h_2=>cases hf
 rename_i y hy
 cases hf
 obtain ⟨v,ev,a,rfl,sq⟩:=S.slot i _ h0
 refine ⟨_,ev,Z,Θ,env,C,_,e1,C',S,h1,fun w H1 k1 f1 S1 b1=>?_⟩
 have S2:=S.go k1 S1.cell
 obtain ⟨v2,ev2,a2,ea2,sq2⟩:=S2.slot i _ h0
 rw [ev] at ev2
 cases ev2
 cases ea2
 refine ⟨a,_,z,.int y,rfl,b1,(rJ _ _).seq sq2,?_,q _ H1 k1 (Fz.refl _) ⟨S2,rfl⟩⟩
 unfold gC at hy ⊢
 rw [List.length_map]
 cases hj:yz ns.length z with
 | none=>rw [hj] at hy; cases hy
 | some j=>
  rw [hj] at hy
  show (ns.map V.int)[j]?=_
  rw [List.getElem?_map,show ns[j]?=some y from hy]
  rfl
end
end L2
namespace L2
open PySem PySem.Spec PyProof.Rows PySem.W
section
variable {K:PySem.W.Frag} {X:Cx}
theorem lM {Z Θ:List Addr} {env:En} {σ:St} {H:Hp} {d:PyData} {vs:List V} (h:Gj Z Θ env σ H [d] vs):∃v,vs=[v]∧dG Z Θ env σ H d v:=by
 cases h with
 | cons a b=>cases b; exact ⟨_,rfl,a⟩
theorem R0 {Z Θ:List Addr} {env:En} {σ:St} {H:Hp} {d e:PyData} {vs:List V} (h:Gj Z Θ env σ H [d,e] vs):∃v w,vs=[v,w]∧dG Z Θ env σ H d v∧dG Z Θ env σ H e w:=by
 cases h with
 | cons a b=>
  cases b with
  | cons b c=>cases c; exact ⟨_,_,rfl,a,b⟩
noncomputable def Qj:PyData→Option Nat
 | .list ds=>some ds.length
 | .tuple ds=>some ds.length
 | .str z=>if z.length≤LIM then some z.length else none
 | .dict kvs=>if (cz cZ kvs).isSome then some kvs.length else none
 | _=>none
noncomputable def iI:List PyData→Option Vl
 | [d]=>(Qj d).map fun n=>.im (.int n)
 | _=>none
noncomputable def R4 (K:PySem.W.Frag):List V→Hp→VK→Prop:=fun xs H Q=>((∃p ys,xs=[.ref p]∧(cJ K H p ys∨gw K H p ys)∧Q (.int ys.length) H)∨∃z,xs=[.str z]∧z.length≤sizeLine∧Q (.int z.length) H)∨∃a kvs,xs=[V.ref a]∧H a=some (.dK kvs)∧Q (.int kvs.length) H
theorem dz:cI X (.builtin "len") (R4 X.K):=(oM.or yG).or Ib
theorem jK:zQ K (R4 K) iI:=by
 intro Z Θ env C σ H xs ds res S b e Q q
 unfold iI at e
 split at e
 case h_2=>cases e
 rename_i d
 obtain ⟨v,rfl,bb⟩:=lM b
 cases hn:Qj d with
 | none=>rw [hn] at e; cases e
 | some n=>
  rw [hn] at e
  cases e
  have fin:=q (.int n) H (bK.refl _ _) (bh S rfl rfl)
  cases d <;> first | cases hn | skip
  ·rename_i z
   simp only [Qj] at hn
   split at hn
   ·rename_i hl
    cases hn
    cases bb.str
    exact .inl (.inr ⟨z,rfl,dg hl,fin⟩)
   ·cases hn
  ·obtain ⟨a,vs,rfl,ha,r⟩:=bb.lst
   exact .inl (.inl ⟨a,vs,rfl,.inl (cJ.of ha),by rw [bT r]; exact fin⟩)
  ·obtain ⟨a,vs,rfl,ha,r⟩:=bb.tup
   exact .inl (.inl ⟨a,vs,rfl,.inr (gw.of ha),by rw [bT r]; exact fin⟩)
  ·rename_i kvs
   simp only [Qj] at hn
   split at hn
   ·rename_i hs
    cases hn
    obtain ⟨a,vs,rfl,da,r⟩:=bb.dct
    rcases da with ⟨ks,h1,ha⟩ | ⟨ks,⟨ne,h2⟩,ha⟩
    ·refine .inr ⟨a,_,rfl,ha,?_⟩
     rw [List.length_zip,gU h1,tB r,Nat.min_self]
     exact fin
    ·obtain ⟨ks',h1⟩:=Option.isSome_iff_exists.mp hs
     exact absurd (jw h1 h2) ne
   ·cases hn
noncomputable def Bm:List PyData→Option Vl
 | [.int i]=>some (.im (.int (if i < 0 then -i else i)))
 | _=>none
theorem Mi:zQ K (fun xs H Q=>∃i,xs=[.int i]∧Q (.int (if i < 0 then -i else i)) H) Bm:=by
 intro Z Θ env C σ H xs ds res S b e Q q
 unfold Bm at e
 split at e
 case h_2=>cases e
 cases e
 obtain ⟨v,rfl,bb⟩:=lM b
 cases bb.int
 exact ⟨_,rfl,q _ H (bK.refl _ _) (bh S rfl rfl)⟩
noncomputable def xx:List PyData→Option Vl
 | [.int i]=>some (.im (.int i))
 | [.bool k]=>some (.im (.int (if k then 1 else 0)))
 | _=>none
theorem Mj:zQ K (fun xs H Q=>(∃i,xs=[.int i]∧Q (.int i) H)∨∃k,xs=[.bl k]∧Q (.int (if k then 1 else 0)) H) xx:=by
 intro Z Θ env C σ H xs ds res S b e Q q
 unfold xx at e
 split at e
 case h_3=>cases e
 ·cases e
  obtain ⟨v,rfl,bb⟩:=lM b
  cases bb.int
  exact .inl ⟨_,rfl,q _ H (bK.refl _ _) (bh S rfl rfl)⟩
 ·cases e
  obtain ⟨v,rfl,bb⟩:=lM b
  cases (show v=.bl _ from bb)
  exact .inr ⟨_,rfl,q _ H (bK.refl _ _) (bh S rfl rfl)⟩
noncomputable def qK:List PyData→Option Vl
 | [.int i,.int j]=>some (.im (.int (if j > i then j else i)))
 | _=>none
noncomputable def qL:List PyData→Option Vl
 | [.int i,.int j]=>some (.im (.int (if j < i then j else i)))
 | _=>none
theorem GP:zQ K (fun xs H Q=>∃i j,xs=[.int i,.int j]∧Q (.int (if j > i then j else i)) H) qK:=by
 intro Z Θ env C σ H xs ds res S b e Q q
 unfold qK at e
 split at e
 case h_2=>cases e
 cases e
 obtain ⟨v,w,rfl,b1,b2⟩:=R0 b
 cases b1.int; cases b2.int
 exact ⟨_,_,rfl,q _ H (bK.refl _ _) (bh S rfl rfl)⟩
theorem GQ:zQ K (fun xs H Q=>∃i j,xs=[.int i,.int j]∧Q (.int (if j < i then j else i)) H) qL:=by
 intro Z Θ env C σ H xs ds res S b e Q q
 unfold qL at e
 split at e
 case h_2=>cases e
 cases e
 obtain ⟨v,w,rfl,b1,b2⟩:=R0 b
 cases b1.int; cases b2.int
 exact ⟨_,_,rfl,q _ H (bK.refl _ _) (bh S rfl rfl)⟩
noncomputable def boolsOf:List PyData→Option (List Bool)
 | []=>some []
 | .bool b::r=>match boolsOf r with
  | some t=>some (b::t)
  | none=>none
 | _=>none
theorem xF {E:Hp}:∀{ds:List PyData} {ns:List Bool} {vs:List V},boolsOf ds=some ns→dJ E ds vs→vs=ns.map V.bl
 | [],ns,vs,h,r=>by cases h; exact r
 | .bool i::ds,ns,vs,h,r=>by
  unfold boolsOf at h
  split at h
  ·rename_i t ht
   cases h
   obtain ⟨u,w,rfl,q,s⟩:=r
   rw [xF ht s]
   have:u=.bl i:=q
   rw [this]
   rfl
  ·cases h
 | .none::_,_,_,h,_=>by cases h
 | .int _::_,_,_,h,_=>by cases h
 | .str _::_,_,_,h,_=>by cases h
 | .list _::_,_,_,h,_=>by cases h
 | .tuple _::_,_,_,h,_=>by cases h
 | .dict _::_,_,_,h,_=>by cases h
noncomputable def xG:List PyData→Option Vl
 | [.list ds]=>(boolsOf ds).map fun bs=>.im (.bool (bs.all id))
 | _=>none
theorem Ml:zQ K (fun xs H Q=>∃(p:Addr) (bs:List Bool),xs=[.ref p]∧cJ K H p (bs.map V.bl)∧Q (.bl (bs.all id)) H) xG:=by
 intro Z Θ env C σ H xs ds res S b e Q q
 unfold xG at e
 split at e
 case h_2=>cases e
 rename_i ds
 cases hb:boolsOf ds with
 | none=>rw [hb] at e; cases e
 | some bs=>
  rw [hb] at e
  cases e
  obtain ⟨v,rfl,bb⟩:=lM b
  obtain ⟨a,vs,rfl,ha,r⟩:=bb.lst
  rw [xF hb r] at ha
  exact ⟨a,bs,rfl,cJ.of ha,q _ H (bK.refl _ _) (bh S rfl rfl)⟩
noncomputable def qM:List PyData→Option Vl
 | [d]=>if IW d&&d.showable&&decide (d.depth≤60)&&decide (d.shown.length≤LIM) then some (.im (.str d.shown)) else none
 | _=>none
theorem GR:zQ K (fun xs H Q=>∃v d,xs=[v]∧RD K H d v∧d.showable=true∧d.depth≤60∧d.shown.length≤sizeLine∧Q (.str d.shown) H) qM:=by
 intro Z Θ env C σ H xs ds res S b e Q q
 unfold qM at e
 split at e
 case h_2=>cases e
 rename_i d
 split at e
 case isFalse=>cases e
 rename_i h
 cases e
 rw [Bool.and_eq_true,Bool.and_eq_true,Bool.and_eq_true,decide_eq_true_iff,decide_eq_true_iff] at h
 obtain ⟨v,rfl,bb⟩:=lM b
 exact ⟨v,d,rfl,(bb.rx h.1.1.1).rd,h.1.1.2,h.1.2,dg h.2,q _ H (bK.refl _ _) (bh S rfl rfl)⟩
noncomputable def gK:List PyData→Option Vl
 | [.list ds]=>some (.im (.tuple ds))
 | [.tuple ds]=>some (.im (.tuple ds))
 | _=>none
theorem lN:zQ K (fun xs H Q=>∃p ys,xs=[.ref p]∧((cJ K H p ys∧∀l,H l=none→Q (.ref l) (upd H l (.tup ys)))∨(gw K H p ys∧Q (.ref p) H))) gK:=by
 intro Z Θ env C σ H xs ds res S b e Q q
 unfold gK at e
 split at e
 case h_3=>cases e
 ·cases e
  obtain ⟨v,rfl,bb⟩:=lM b
  obtain ⟨a,vs,rfl,ha,r⟩:=bb.lst
  exact ⟨a,vs,rfl,.inl ⟨cJ.of ha,fun l hl=>q _ _ (bK.upd hl) (tD S r hl)⟩⟩
 ·cases e
  obtain ⟨v,rfl,bb⟩:=lM b
  obtain ⟨a,vs,rfl,ha,r⟩:=bb.tup
  exact ⟨a,vs,rfl,.inr ⟨gw.of ha,q _ H (bK.refl _ _) ⟨S,bb⟩⟩⟩
end
noncomputable def DQ (n:String):PyData→Option Bool
 | .none=>some false
 | .bool _=>some (n=="bool" || n=="int")
 | .int _=>some (n=="int")
 | .str _=>some (n=="str")
 | .list _=>some (n=="list")
 | .tuple _=>some (n=="tuple")
 | .dict _=>none
noncomputable def Mm (n:String):Bool:=n=="bool" || n=="int" || n=="str" || n=="list" || n=="tuple"
theorem DR {K:PySem.W.Frag} {n:String} {d:PyData} {b:Bool} (hn:Mm n=true) (e:DQ n d=some b):PySem.W.kitOne K (Wt d) (.type n)=some b:=by
 unfold Mm at hn
 simp only [Bool.or_eq_true,beq_iff_eq] at hn
 rcases hn with (((rfl | rfl) | rfl) | rfl) | rfl <;> cases d <;> cases e <;> rfl
theorem Bo {n:String} {d:PyData} {b:Bool} (e:DQ n d=some b):∀kvs,d≠.dict kvs:=fun kvs z=>by subst z; cases e
theorem dG.ty {K:PySem.W.Frag} {Z Θ:List Addr} {env:En} {σ:St} {H:Hp} {d:PyData} {v:V} (h:dG Z Θ env σ H d v) (hd:∀kvs,d≠.dict kvs):kE K H v (Wt d):=by
 cases d with
 | none=>exact RX.ty (d:=.none) h
 | bool b=>exact RX.ty (d:=.bool b) h
 | int i=>exact RX.ty (d:=.int i) h
 | str z=>exact RX.ty (d:=.str z) h
 | list ds=>
  obtain ⟨a,vs,rfl,ha,r⟩:=h.lst
  exact .lst ha
 | tuple ds=>
  obtain ⟨a,vs,rfl,ha,r⟩:=h.tup
  exact .tup ha
 | dict kvs=>exact absurd rfl (hd kvs)
end L2
namespace L2
open PySem PySem.Spec PyProof.Rows PySem.W
noncomputable def pF (n:String) (f:FB):FE:=fun env C=>match f env C with
 | some (d,_,C1)=>match DQ n d with
  | some b=>some (.im (.bool b),env,C1)
  | none=>none
 | none=>none
noncomputable def Bp (m n:String) (f:FB):FE:=fun env C=>match f env C with
 | some (d,_,C1)=>match DQ m d,DQ n d with
  | some p,some q=>some (.im (.bool (p || q)),env,C1)
  | _,_=>none
 | none=>none
section
variable {X:Cx} {a t t':Expr} {p pos tp:Pos} {x1:Nat}
theorem jj {n:String} {f:FB} (hn:Mm n=true) (ha:PE X a (jD X.K f)) (ht:PE X t (tC (.ty n))) (hg:Gl X "isinstance") (hm:X.mg "isinstance"=none) (hv:bootBuiltins "isinstance"=some (.builtin "isinstance"))
  (he:starEach [a,t] X.env=(false,eval a X.env)::starEach [t] X.env:=by rfl) (he2:starEach [t] X.env=(false,eval t X.env)::starEach [] X.env:=by rfl) (hpl:(backTo pos (starEach [t] X.env)).any (·.1)=false:=by rfl):
  PE X (.Call (.Name "isinstance" p) [a,t] [] pos) (tE X.K (pF n f)):=
 (oH Aa hg hm hv (dw ha (dw ht jb he2) he) (by decide) (by decide) he hpl).weak fun σ H Q aR=>by
  obtain ⟨Z,Θ,env,C,r,env',C',S,hf,q⟩:=aR
  unfold pF at hf
  split at hf
  case h_2=>cases hf
  rename_i d e1 C1 h1
  split at hf
  case h_2=>cases hf
  rename_i b hb
  cases hf
  refine ⟨Z,Θ,env,C,d,e1,C',S,h1,fun v H1 k f S1 b1=>⟨v,n,Wt d,b,rfl,b1.ty (Bo hb),DR hn hb,q _ H1 k (Fz.refl _) ⟨S.go k S1.cell,rfl⟩⟩⟩
theorem Qk {m n:String} {f:FB} (hm':Mm m=true) (hn:Mm n=true) (ha:PE X a (jD X.K f)) (ht:PE X t (tC (.ty m))) (ht':PE X t' (tC (.ty n))) (hg:Gl X "isinstance") (hm:X.mg "isinstance"=none) (hv:bootBuiltins "isinstance"=some (.builtin "isinstance"))
  (he:starEach [a,.Tuple [t,t'] x1 tp] X.env=(false,eval a X.env)::starEach [.Tuple [t,t'] x1 tp] X.env:=by rfl) (he2:starEach [.Tuple [t,t'] x1 tp] X.env=(false,eval (.Tuple [t,t'] x1 tp) X.env)::starEach [] X.env:=by rfl)
  (h3:starEach [t,t'] X.env=(false,eval t X.env)::starEach [t'] X.env:=by rfl) (h4:starEach [t'] X.env=(false,eval t' X.env)::starEach [] X.env:=by rfl)
  (hpl:(backTo pos (starEach [.Tuple [t,t'] x1 tp] X.env)).any (·.1)=false:=by rfl):
  PE X (.Call (.Name "isinstance" p) [a,.Tuple [t,t'] x1 tp] [] pos) (tE X.K (Bp m n f)):=
 (oH yJ hg hm hv (dw ha (dw (CJ (dw ht (dw ht' jb h4) h3)) jb he2) he) (by decide) (by decide) he hpl).weak fun σ H Q aR=>by
  obtain ⟨Z,Θ,env,C,r,env',C',S,hf,q⟩:=aR
  unfold Bp at hf
  split at hf
  case h_2=>cases hf
  rename_i d e1 C1 h1
  split at hf
  case h_2=>cases hf
  rename_i b b' hb hb'
  cases hf
  refine ⟨Z,Θ,env,C,d,e1,C',S,h1,fun v H1 k f S1 b1=>⟨by show 2≤sizeLine; rw [sizeLine_eq]; decide,fun c hc=>?_⟩⟩
  have kc:bK Θ H1 (upd H1 c (.tup [.ty m,.ty n])):=bK.upd hc
  have s2:=S1.uy (aV.upd (o:=.tup [.ty m,.ty n]) hc)
  have b2:=b1.go S1 kc (Fz.refl _)
  refine ⟨v,c,m,n,Wt d,b,b',rfl,aK,b2.ty (Bo hb),DR hm' hb,DR hn hb',q _ _ (k.trans kc) (Fz.refl _) ⟨S.go (k.trans kc) s2.cell,rfl⟩⟩
end
noncomputable def ins {α:Type} (lt:α→α→Bool) (x:α):List α→List α
 | []=>[x]
 | y::r=>if lt y x then y::ins lt x r else x::y::r
noncomputable def eE {α:Type} (lt:α→α→Bool):List α→List α
 | []=>[]
 | x::r=>ins lt x (eE lt r)
section
variable {α:Type} {lt:α→α→Bool}
theorem uN (x:α):∀l:List α,(ins lt x l).Perm (x::l)
 | []=>List.Perm.refl _
 | y::r=>by
  unfold ins
  split
  ·exact ((uN x r).cons y).trans (List.Perm.swap x y r)
  ·exact List.Perm.refl _
theorem dh:∀l:List α,(eE lt l).Perm l
 | []=>List.Perm.refl _
 | x::r=>(uN x _).trans ((dh r).cons x)
structure xH (lt:α→α→Bool) (P:α→Prop):Prop where
 Wu:∀a b,P a→P b→lt a b=true→lt b a=false
 neg:∀a b c,P a→P b→P c→lt a c=true→lt a b=true∨lt b c=true
 tot:∀a b,P a→P b→lt a b=false→lt b a=false→a=b
theorem Mp {P:α→Prop} (O:xH lt P) {x:α} (hx:P x):∀{l:List α},(∀y∈l,P y)→l.Pairwise (fun a b=>lt b a=false)→(ins lt x l).Pairwise (fun a b=>lt b a=false)
 | [],_,_=>List.pairwise_cons.mpr ⟨fun _ m=>(nomatch m),List.Pairwise.nil⟩
 | y::r,hp,h=>by
  rw [List.pairwise_cons] at h
  have py:=hp y List.mem_cons_self
  unfold ins
  split
  ·rename_i hl
   rw [List.pairwise_cons]
   refine ⟨fun z m=>?_,Mp O hx (fun z m=>hp z (List.mem_cons_of_mem _ m)) h.2⟩
   rcases List.mem_cons.mp ((uN x r).mem_iff.mp m) with rfl | m
   ·exact O.Wu _ _ py hx hl
   ·exact h.1 z m
  ·rename_i hl
   have hl:lt y x=false:=by simpa using hl
   rw [List.pairwise_cons,List.pairwise_cons]
   refine ⟨fun z m=>?_,h.1,h.2⟩
   rcases List.mem_cons.mp m with rfl | m
   ·exact hl
   ·have pz:=hp z (List.mem_cons_of_mem _ m)
    cases hz:lt z x with
    | false=>rfl
    | true=>
     rcases O.neg z y x pz py hx hz with h1 | h1
     ·rw [h.1 z m] at h1; cases h1
     ·rw [hl] at h1; cases h1
theorem uO {P:α→Prop} (O:xH lt P):∀{l:List α},(∀y∈l,P y)→(eE lt l).Pairwise (fun a b=>lt b a=false)
 | [],_=>List.Pairwise.nil
 | x::r,hp=>Mp O (hp x List.mem_cons_self) (fun y m=>hp y (List.mem_cons_of_mem _ ((dh r).mem_iff.mp m))) (uO O fun y m=>hp y (List.mem_cons_of_mem _ m))
theorem Mq {P:α→Prop} (O:xH lt P):∀{l m:List α},(∀y∈l,P y)→l.Perm m→l.Pairwise (fun a b=>lt b a=false)→m.Pairwise (fun a b=>lt b a=false)→l=m
 | [],m,_,p,_,_=>(List.nil_perm.mp p).symm
 | x::r,[],_,p,_,_=>absurd p.length_eq (by simp)
 | x::r,y::t,hp,p,h1,h2=>by
  have pm:∀z∈y::t,P z:=fun z m=>hp z (p.mem_iff.mpr m)
  rw [List.pairwise_cons] at h1 h2
  have e:x=y:=by
   have m1:x∈y::t:=p.mem_iff.mp List.mem_cons_self
   have m2:y∈x::r:=p.mem_iff.mpr List.mem_cons_self
   rcases List.mem_cons.mp m1 with e | m1
   ·exact e
   ·rcases List.mem_cons.mp m2 with e | m2
    ·exact e.symm
    ·exact O.tot x y (hp x List.mem_cons_self) (pm y List.mem_cons_self) (h2.1 x m1) (h1.1 y m2)
  subst e
  rw [Mq O (fun z m=>hp z (List.mem_cons_of_mem _ m)) ((List.perm_cons x).mp p) h1.2 h2.2]
theorem zm {P:α→Prop} (O:xH lt P) {l m:List α} (hp:∀y∈l,P y) (p:m.Perm l) (h:m.Pairwise (fun a b=>lt b a=false)):m=eE lt l:=
 Mq O (fun y hy=>hp y (p.mem_iff.mp hy)) (p.trans (dh l).symm) h (uO O hp)
end
noncomputable def ltI (i j:Int):Bool:=decide (i < j)
theorem Zn:xH ltI (fun _=>True):=⟨fun a b _ _ h=>by unfold ltI at *; simp at *; omega,fun a b c _ _ _ h=>by unfold ltI at *; simp at *; omega,fun a b _ _ h1 h2=>by unfold ltI at *; simp at *; omega⟩
theorem Ql:xH strLt (fun _=>True):=by
 refine ⟨fun a b _ _ h=>?_,fun a b c _ _ _ h=>?_,fun a b _ _ h1 h2=>?_⟩
 ·exact Ph (a:=.inr a) (b:=.inr b) h
 ·exact Ul (a:=.inr a) (b:=.inr b) (c:=.inr c) rfl rfl h
 ·exact Sum.inr.inj (Um (a:=.inr a) (b:=.inr b) rfl h1 h2)
noncomputable def strsOf:List PyData→Option (List Str)
 | []=>some []
 | .str i::r=>match strsOf r with
  | some t=>some (i::t)
  | none=>none
 | _=>none
theorem pG {E:Hp}:∀{ds:List PyData} {ns:List Str} {vs:List V},strsOf ds=some ns→dJ E ds vs→vs=ns.map V.str
 | [],ns,vs,h,r=>by cases h; exact r
 | .str i::ds,ns,vs,h,r=>by
  unfold strsOf at h
  split at h
  ·rename_i t ht
   cases h
   obtain ⟨u,w,rfl,q,s⟩:=r
   rw [pG ht s]
   have:u=.str i:=q
   rw [this]
   rfl
  ·cases h
 | .none::_,_,_,h,_=>by cases h
 | .bool _::_,_,_,h,_=>by cases h
 | .int _::_,_,_,h,_=>by cases h
 | .list _::_,_,_,h,_=>by cases h
 | .tuple _::_,_,_,h,_=>by cases h
 | .dict _::_,_,_,h,_=>by cases h
noncomputable def qN:PyData→Option (List Bool)
 | .tuple xs=>(keysOf xs).map fun ks=>ks.map eZ
 | _=>none
noncomputable def Bq:Key→PyData
 | .inl i=>.int i
 | .inr x=>.str x
noncomputable def GX:PyData→List Key
 | .tuple xs=>(keysOf xs).getD []
 | _=>[]
noncomputable def qO (ds:List PyData):List PyData:=(wg (ds.map GX)).map fun k=>.tuple (k.map Bq)
noncomputable def uP (ds:List PyData):Option (List PyData):=if ds.length < 64 then match intsOf ds with
  | some ns=>some ((eE ltI ns).map .int)
  | none=>match strsOf ds with
   | some zs=>some ((eE strLt zs).map .str)
   | none=>match ds with
    | []=>some []
    | d::_=>match qN d with
     | some (b::sh)=>if (ds.all fun e=>decide (qN e=some (b::sh))) then some (qO ds) else none
     | _=>none
 else none
noncomputable def gZ:List PyData→Option Vl
 | [.list ds]=>(uP ds).map fun l=>.ow (.list l)
 | _=>none
noncomputable def DW (K:PySem.W.Frag):List V→Hp→VK→Prop:=fun xs H Q=>((∃(p:Addr) (ns:List Int),xs=[.ref p]∧cJ K H p (ns.map V.int)∧ns.length < 64∧∀(l:Addr) (ns':List Int),H l=none→ns'.Perm ns→ns'.Pairwise (·≤·)→Q (.ref l) (upd H l (.lst (ns'.map V.int))))∨
 ∃(p:Addr) (ns:List Str),xs=[.ref p]∧cJ K H p (ns.map V.str)∧ns.length < 64∧∀(l:Addr) (ns':List Str),H l=none→ns'.Perm ns→sortedS ns'=true→Q (.ref l) (upd H l (.lst (ns'.map V.str))))∨
 ∃(p:Addr) (rows:List Row) (b:Bool) (sh:List Bool),xs=[.ref p]∧cJ K H p (rows.map fun r=>V.ref r.1)∧rows.length < 64∧(∀r∈rows,H r.1=some (.tup (r.2.map kV))∧r.2.map eZ=b::sh)∧∀(l:Addr) (rows':List Row),H l=none→rows'.Perm rows→rows'.map (·.2)=wg (rows.map (·.2))→Q (.ref l) (upd H l (.lst (rows'.map fun r=>V.ref r.1)))
theorem DX {X:Cx}:cI X (.builtin "sorted") (DW X.K):=(qp.or qt).or oX
theorem sortI {ns ns':List Int} (p:ns'.Perm ns) (h:ns'.Pairwise (·≤·)):ns'=eE ltI ns:=zm Zn (fun _ _=>trivial) p (h.imp fun {a b} hab=>by unfold ltI; simp; exact hab)
theorem Mr:∀{x:Str} {r:List Str},risingS x r=true→(x::r).Pairwise (fun a b=>strLt b a=false)
 | x,[],_=>List.pairwise_cons.mpr ⟨fun _ m=>(nomatch m),List.Pairwise.nil⟩
 | x,y::r,h=>by
  unfold risingS at h
  rw [Bool.and_eq_true,Bool.not_eq_true'] at h
  have ih:=Mr h.2
  have hxy:strLt y x=false:=by
   have:=h.1
   unfold strLt
   rw [lt_meets]
   exact this
  rw [List.pairwise_cons]
  refine ⟨fun z m=>?_,ih⟩
  rcases List.mem_cons.mp m with rfl | m
  ·exact hxy
  ·rw [List.pairwise_cons] at ih
   cases hz:strLt z x with
   | false=>rfl
   | true=>
    rcases Ql.neg z y x trivial trivial trivial hz with h1 | h1
    ·rw [ih.1 z m] at h1; cases h1
    ·rw [hxy] at h1; cases h1
theorem DY {ns ns':List Str} (p:ns'.Perm ns) (h:sortedS ns'=true):ns'=eE strLt ns:=zm Ql (fun _ _=>trivial) p (by
 cases ns' with
 | nil=>exact List.Pairwise.nil
 | cons x r=>exact Mr h)
theorem pH:∀{xs:List PyData} {ks:List Key},keysOf xs=some ks→xs=ks.map Bq
 | [],ks,h=>by cases h; rfl
 | x::xs,ks,h=>by
  unfold keysOf at h
  split at h
  ·rename_i k t h1 h2
   cases h
   rw [pH h2]
   have:x=Bq k:=by
    cases x <;> first | (cases h1; rfl) | cases h1
   rw [this]
   rfl
  ·cases h
theorem uQ:∀ks:List Key,keysOf (ks.map Bq)=some ks
 | []=>rfl
 | k::ks=>by
  show (match cZ (Bq k),keysOf (ks.map Bq) with | some k,some t=>some (k::t) | _,_=>none)=_
  rw [uQ ks]
  cases k <;> rfl
theorem Ji {ds:List PyData} {rows rows':List Row} (e:ds=rows.map (fun r=>.tuple (r.2.map Bq))) (h:rows'.map (·.2)=wg (rows.map (·.2))):(rows'.map fun r=>PyData.tuple (r.2.map Bq))=qO ds:=by
 have e1:ds.map GX=rows.map (·.2):=by
  rw [e,List.map_map]
  refine List.map_congr_left fun r _=>?_
  show (keysOf (r.2.map Bq)).getD []=r.2
  rw [uQ]
  rfl
 unfold qO
 rw [e1,←h,List.map_map]
 rfl
theorem xJ {ds:List PyData} (h:∀d∈ds,(qN d).isSome=true):(qO ds).Perm ds:=by
 have:=(Im (ds.map GX)).map fun k=>PyData.tuple (k.map Bq)
 refine this.trans (List.Perm.of_eq ?_)
 rw [List.map_map]
 refine (List.map_congr_left fun d hd=>?_).trans (List.map_id ds)
 have hs:=h d hd
 cases d with
 | tuple xs=>
  show PyData.tuple (((keysOf xs).getD []).map Bq)=.tuple xs
  cases hk:keysOf xs with
  | none=>
   have hs:((keysOf xs).map fun ks=>ks.map eZ).isSome=true:=hs
   rw [hk] at hs
   cases hs
  | some ks=>rw [pH hk]; rfl
 | _=>cases hs
theorem Br {E:Hp} {sh:List Bool}:∀{ds:List PyData} {vs:List V},(∀d∈ds,qN d=some sh)→dJ E ds vs→∃rows:List Row,vs=rows.map (fun r=>V.ref r.1)∧ds=rows.map (fun r=>.tuple (r.2.map Bq))∧∀r∈rows,E r.1=some (.tup (r.2.map kV))∧r.2.map eZ=sh
 | [],vs,_,r=>⟨[],r,rfl,fun _ m=>(nomatch m)⟩
 | d::ds,vs,h,r=>by
  obtain ⟨u,w,rfl,q,s⟩:=r
  obtain ⟨rows,e1,e2,e3⟩:=Br (fun d m=>h d (List.mem_cons_of_mem _ m)) s
  have hd:=h d List.mem_cons_self
  cases d <;> first | cases hd | skip
  rename_i xs
  have hd:(keysOf xs).map (fun ks=>ks.map eZ)=some sh:=hd
  cases hk:keysOf xs with
  | none=>rw [hk] at hd; cases hd
  | some ks=>
   rw [hk] at hd
   obtain ⟨a,vs',rfl,ha,rr⟩:=q
   rw [gO hk rr] at ha
   refine ⟨(a,ks)::rows,by rw [e1]; rfl,by rw [e2,pH hk]; rfl,fun r m=>?_⟩
   rcases List.mem_cons.mp m with rfl | m
   ·exact ⟨ha,Option.some.inj hd⟩
   ·exact e3 r m
theorem uR {E:Hp}:∀{rows:List Row},(∀r∈rows,E r.1=some (.tup (r.2.map kV)))→dJ E (rows.map fun r=>.tuple (r.2.map Bq)) (rows.map fun r=>V.ref r.1)
 | [],_=>rfl
 | r::rows,h=>by
  refine ⟨_,_,rfl,⟨r.1,r.2.map kV,rfl,h r List.mem_cons_self,?_⟩,uR fun r m=>h r (List.mem_cons_of_mem _ m)⟩
  generalize r.2=ks
  induction ks with
  | nil=>rfl
  | cons k ks ih=>exact ⟨_,_,rfl,by cases k <;> rfl,ih⟩
theorem uT:∀{ds:List PyData} {ns:List Int},intsOf ds=some ns→ds=ns.map .int
 | [],ns,h=>by cases h; rfl
 | .int i::ds,ns,h=>by
  unfold intsOf at h
  split at h
  ·rename_i t ht; cases h; rw [uT ht]; rfl
  ·cases h
 | .none::_,_,h=>by cases h
 | .bool _::_,_,h=>by cases h
 | .str _::_,_,h=>by cases h
 | .list _::_,_,h=>by cases h
 | .tuple _::_,_,h=>by cases h
 | .dict _::_,_,h=>by cases h
theorem pI:∀{ds:List PyData} {ns:List Str},strsOf ds=some ns→ds=ns.map .str
 | [],ns,h=>by cases h; rfl
 | .str i::ds,ns,h=>by
  unfold strsOf at h
  split at h
  ·rename_i t ht; cases h; rw [pI ht]; rfl
  ·cases h
 | .none::_,_,h=>by cases h
 | .bool _::_,_,h=>by cases h
 | .int _::_,_,h=>by cases h
 | .list _::_,_,h=>by cases h
 | .tuple _::_,_,h=>by cases h
 | .dict _::_,_,h=>by cases h
theorem Jj {K:PySem.W.Frag}:zQ K (DW K) gZ:=by
 intro Z Θ env C σ H xs ds0 res S b e Q q
 unfold gZ at e
 split at e
 case h_2=>cases e
 rename_i ds
 cases hs:uP ds with
 | none=>rw [hs] at e; cases e
 | some l=>
  rw [hs] at e
  cases e
  obtain ⟨v,rfl,bb⟩:=lM b
  obtain ⟨a,vs,rfl,ha,r⟩:=bb.lst
  unfold uP at hs
  split at hs
  case isFalse=>cases hs
  rename_i hl
  split at hs
  ·rename_i ns hns
   cases hs
   have ev:=lH hns r
   subst ev
   refine .inl (.inl ⟨a,ns,rfl,cJ.of ha,by rw [uT hns,List.length_map] at hl; exact hl,fun l ns' hn p hp=>?_⟩)
   rw [sortI p hp]
   exact q _ _ (bK.upd hn) (dO S (Ay _) hn)
  ·split at hs
   ·rename_i ns hns
    cases hs
    have ev:=pG hns r
    subst ev
    refine .inl (.inr ⟨a,ns,rfl,cJ.of ha,by rw [pI hns,List.length_map] at hl; exact hl,fun l ns' hn p hp=>?_⟩)
    rw [DY p hp]
    exact q _ _ (bK.upd hn) (dO S (uC _) hn)
   ·split at hs
    ·cases hs
     cases (show vs=[] from r)
     exact .inl (.inl ⟨a,[],rfl,cJ.of ha,by decide,fun l ns' hn p hp=>by
      rw [List.perm_nil.mp p]
      exact q _ _ (bK.upd hn) (dO S rfl hn)⟩)
    ·rename_i d0 dr hi1 hi2
     split at hs
     case h_2=>cases hs
     rename_i b0 sh hsh
     split at hs
     case isFalse=>cases hs
     rename_i hall
     cases hs
     have hall':∀d∈d0::dr,qN d=some (b0::sh):=fun d m=>of_decide_eq_true (List.all_eq_true.mp hall d m)
     obtain ⟨rows,e1,e2,e3⟩:=Br hall' r
     subst e1
     refine .inr ⟨a,rows,b0,sh,rfl,cJ.of ha,?_,fun r m=>⟨bL (e3 r m).1,(e3 r m).2⟩,fun l rows' hn p hp=>?_⟩
     ·have:=congrArg List.length e2
      rw [List.length_map] at this
      rw [←this]
      exact hl
     ·have es:(rows'.map fun r=>PyData.tuple (r.2.map Bq))=qO (d0::dr):=Ji e2 hp
      rw [←es] at q
      exact q _ _ (bK.upd hn) (dO S (uR fun r m=>(e3 r (p.mem_iff.mp m)).1) hn)
noncomputable def zp (ds:List PyData):Option (List PyData):=if ds.length < 64 then match intsOf ds with
  | some ns=>some ((eE ltI (dedup ns)).map .int)
  | none=>none
 else none
noncomputable def fZ (ds:List PyData):Option (List PyData):=if ds.length < 64 then match strsOf ds with
  | some ns=>some ((eE strLt (dedup ns)).map .str)
  | none=>none
 else none
noncomputable def GZ (f:FB):FE:=fun env C=>match f env C with
 | some (.list ds,_,C1)=>match zp ds with
  | some l=>some (.ow (.list l),env,C1)
  | none=>none
 | _=>none
noncomputable def G3 (f:FB):FE:=fun env C=>match f env C with
 | some (.list ds,_,C1)=>match fZ ds with
  | some l=>some (.ow (.list l),env,C1)
  | none=>none
 | _=>none
section
variable {X:Cx} {l:Expr} {f:FB} {p1 p2 pos1 pos2:Pos}
theorem Qm (hc:X.calm=true) (hl:PE X l (jD X.K f)) (g1:Gl X "sorted") (m1:X.mg "sorted"=none) (g2:Gl X "set") (m2:X.mg "set"=none)
  (he:starEach [.Call (.Name "set" p2) [l] [] pos2] X.env=(false,eval (.Call (.Name "set" p2) [l] [] pos2) X.env)::starEach [] X.env:=by rfl) (hpl:(backTo pos1 (starEach [] X.env)).any (·.1)=false:=by rfl)
  (he2:starEach [l] X.env=(false,eval l X.env)::starEach [] X.env:=by rfl) (Dv:(backTo pos2 (starEach [] X.env)).any (·.1)=false:=by rfl):
  PE X (.Call (.Name "sorted" p1) [.Call (.Name "set" p2) [l] [] pos2] [] pos1) (tE X.K (GZ f)):=(Aq hc hl g1 m1 g2 m2 he hpl he2 Dv).weak fun σ H Q aR=>by
 obtain ⟨Z,Θ,env,C,r,env',C',S,hf,q⟩:=aR
 unfold GZ at hf
 split at hf
 case h_2=>cases hf
 rename_i ds e1 C1 h1
 split at hf
 case h_2=>cases hf
 rename_i l' hs
 cases hf
 refine ⟨Z,Θ,env,C,_,e1,C',S,h1,fun v H1 k f S1 b1=>?_⟩
 unfold zp at hs
 split at hs
 case isFalse=>cases hs
 rename_i hl
 split at hs
 case h_2=>cases hs
 rename_i ns hns
 cases hs
 obtain ⟨a,vs,rfl,ha,r⟩:=b1.lst
 have ev:=lH hns r
 subst ev
 have S2:=S.go k S1.cell
 refine ⟨a,ns,rfl,cJ.of ha,by rw [uT hns,List.length_map] at hl; exact hl,fun D ns' hn p hp=>?_⟩
 rw [sortI p hp]
 exact q _ _ (k.trans (bK.upd hn)) (Fz.refl _) ((dO S2 (Ay _) hn).from k)
theorem Qn (hc:X.calm=true) (hl:PE X l (jD X.K f)) (g1:Gl X "sorted") (m1:X.mg "sorted"=none) (g2:Gl X "set") (m2:X.mg "set"=none)
  (he:starEach [.Call (.Name "set" p2) [l] [] pos2] X.env=(false,eval (.Call (.Name "set" p2) [l] [] pos2) X.env)::starEach [] X.env:=by rfl) (hpl:(backTo pos1 (starEach [] X.env)).any (·.1)=false:=by rfl)
  (he2:starEach [l] X.env=(false,eval l X.env)::starEach [] X.env:=by rfl) (Dv:(backTo pos2 (starEach [] X.env)).any (·.1)=false:=by rfl):
  PE X (.Call (.Name "sorted" p1) [.Call (.Name "set" p2) [l] [] pos2] [] pos1) (tE X.K (G3 f)):=(Ar hc hl g1 m1 g2 m2 he hpl he2 Dv).weak fun σ H Q aR=>by
 obtain ⟨Z,Θ,env,C,r,env',C',S,hf,q⟩:=aR
 unfold G3 at hf
 split at hf
 case h_2=>cases hf
 rename_i ds e1 C1 h1
 split at hf
 case h_2=>cases hf
 rename_i l' hs
 cases hf
 refine ⟨Z,Θ,env,C,_,e1,C',S,h1,fun v H1 k f S1 b1=>?_⟩
 unfold fZ at hs
 split at hs
 case isFalse=>cases hs
 rename_i hl
 split at hs
 case h_2=>cases hs
 rename_i ns hns
 cases hs
 obtain ⟨a,vs,rfl,ha,r⟩:=b1.lst
 have ev:=pG hns r
 subst ev
 have S2:=S.go k S1.cell
 refine ⟨a,ns,rfl,cJ.of ha,by rw [pI hns,List.length_map] at hl; exact hl,fun D ns' hn p hp=>?_⟩
 rw [DY p hp]
 exact q _ _ (k.trans (bK.upd hn)) (Fz.refl _) ((dO S2 (uC _) hn).from k)
end
noncomputable def G4 (f g:FB):FE:=fun env C=>match f env C with
 | some (.list ds,e1,C1)=>match g e1 C1 with
  | some (.int k,_,C2)=>match intsOf ds with
   | some ns=>some (.im (.int (maxD k ns)),env,C2)
   | none=>none
  | _=>none
 | _=>none
theorem Qo {X:Cx} {l de:Expr} {f g:FB} {p pos kp:Pos} (hc:X.calm=true) (hl:PE X l (jD X.K f)) (hd:PE X de (jD X.K g)) (hg:Gl X "max") (hm:X.mg "max"=none) (he:starEach [l] X.env=(false,eval l X.env)::starEach [] X.env:=by rfl):
  PE X (.Call (.Name "max" p) [l] [⟨some "default",de,kp⟩] pos) (tE X.K (G4 f g)):=(Pu hc hl hd hg hm he).weak fun σ H Q aR=>by
 obtain ⟨Z,Θ,env,C,r,env',C',S,hf,q⟩:=aR
 unfold G4 at hf
 split at hf
 case h_2=>cases hf
 rename_i ds e1 C1 h1
 split at hf
 case h_2=>cases hf
 rename_i k e2 C2 h2
 split at hf
 case h_2=>cases hf
 rename_i ns hns
 cases hf
 refine ⟨Z,Θ,env,C,_,e1,C1,S,h1,fun v H1 k1 f1 S1 b1=>⟨Z,Θ,e1,C1,_,e2,C',S1,h2,fun w H2 k2 f2 S2 b2=>?_⟩⟩
 obtain ⟨a,vs,rfl,ha,r⟩:=(b1.go S1 k2 f2).lst
 rw [lH hns r] at ha
 exact ⟨a,ns,k,rfl,b2,cJ.of ha,q _ H2 (k1.trans k2) (Fz.refl _) ⟨S.go (k1.trans k2) S2.cell,rfl⟩⟩
end L2
namespace L2
open PySem PySem.Spec PyProof.Rows PySem.W
theorem Qp {X:Cx} {pins:List (Addr×Obj)} {σ:St} {H:Hp} {s:Shared} {a:Addr} {y d:V} {u r:Value} {o:Option V} {A:Around} {E:Value→Shared→Prop} {Q:Value→Shared→Prop} (hu:A.units + 1 < cLine) (I:Inv X pins σ H s) (g:Gp H a y o) (ry:RelV y u) (rd:RelV d r) (h:∀w' s',Inv X pins σ H s'→RelV (o.getD d) w'→Q w' s'):
  wpAny (model X.prog X.w) A (call (.builtin "dict.get") [.ref a,u,r]) Q E s:=by
 rcases g with g | ⟨ha,⟨b,ks,rfl,hb⟩,rfl⟩
 ·exact Kh hu I g ry rd h
 ·exact Kh hu (I.WR ha) (Gp.re ha hb) ry rd fun w' s' I'=>h w' s' (I'.XS ha)
noncomputable def W9 (td ty tx:TE):TE:=fun σ H Q=>td σ H fun x H1=>∃a,x=.ref a∧IsD H1 a∧ty σ H1 fun y H2=>tx σ H2 fun z H3=>∃o,Gp H3 a y o∧Q (o.getD z) H3
theorem Qq {X:Cx} {o e f:Expr} {apos cpos:Pos} {td ty tx:TE} (hu:X.A.units + 1 < cLine) (ho:PE X o td) (he:PE X e ty) (hf:PE X f tx) (m:M2 X o "get" apos e f cpos):PE X (.Call (.Attribute o "get" apos) [e,f] [] cpos) (W9 td ty tx):=by
 intro pins s σ H Q I h
 refine wpAny_Call_method m.base m.few m.line PySem.F.plainAttrs_dict PySem.F.slot_dict_get PySem.F.type_dict_get (cF (ho pins s σ H _ I h) fun u s1 aR=>?_)
 obtain ⟨x,H1,I1,rx,a,ex,d,q1⟩:=aR
 subst ex
 obtain rfl:u=Value.ref a:=rx
 obtain ⟨t1,t2,_⟩:=Uc I1 d
 refine ⟨t1,t2,?_⟩
 rw [m.trees]
 refine Calls.callWith_builtin rfl (Calls.evalArgs_plain (Calls.spliced_cons (cF (he pins s1 σ H1 _ I1 q1) fun iv s2 ⟨y,H2,I2,ry,q2⟩=>
  Calls.spliced_cons (cF (hf pins s2 σ H2 _ I2 q2) fun fv s3 ⟨z,H3,I3,rz,ov,g,q3⟩=>Calls.spliced_nil ?_))))
 exact Qp hu I3 g ry rz fun w' s4 I4 rw'=>⟨_,H3,I4,rw',q3⟩
noncomputable def Bs (fd fk:FB) (fx:FE):FE:=fun env C=>match fd env C with
 | some (.dict kvs,e1,C1)=>match fk e1 C1 with
  | some (dk,e2,C2)=>match fx e2 C2 with
   | some (r,e3,C3)=>match iG kvs dk with
    | some (some d)=>some (.im d,rst (.im d) env e3,C3)
    | some none=>some (still r,rst (still r) env e3,C3)
    | none=>none
   | none=>none
  | none=>none
 | _=>none
theorem Ms {X:Cx} {o e f:Expr} {apos cpos:Pos} {fd fk:FB} {fx:FE} (hu:X.A.units + 1 < cLine) (ho:PE X o (jD X.K fd)) (he:PE X e (jD X.K fk)) (hf:PE X f (tE X.K fx)) (m:M2 X o "get" apos e f cpos):PE X (.Call (.Attribute o "get" apos) [e,f] [] cpos) (tE X.K (Bs fd fk fx)):=(Qq hu ho he hf m).weak fun σ H Q aR=>by
 obtain ⟨Z,Θ,env,C,r,env',C',S,hf,q⟩:=aR
 unfold Bs at hf
 split at hf
 case h_2=>cases hf
 rename_i kvs e1 C1 h1
 split at hf
 case h_2=>cases hf
 rename_i dk e2 C2 h2
 split at hf
 case h_2=>cases hf
 rename_i r0 e3 C3 h3
 refine ⟨Z,Θ,env,C,_,e1,C1,S,h1,fun v H1 k1 f1 S1 b1=>?_⟩
 obtain ⟨a,vs,rfl,da,rr⟩:=b1.dct
 refine ⟨a,rfl,?_,Z,Θ,e1,C1,dk,e2,C2,S1,h2,fun w H2 k2 f2 S2 b2=>⟨Z,Θ,e2,C2,r0,e3,C3,S2,h3,fun z H3 k3 f3 R3=>?_⟩⟩
 ·rcases da with ⟨ks,_,h⟩ | ⟨ks,_,h⟩
  ·exact .inl ⟨_,.inl h⟩
  ·exact .inr ⟨_,.inl h⟩
 have b1':=(b1.go S1 k2 f2).go S2 k3 f3
 have b2':=b2.go S2 k3 f3
 obtain ⟨S3,a3⟩:=R3.arg
 have kk:=(k1.trans k2).trans k3
 have ff:=(f1.trans f2).trans f3
 split at hf
 ·rename_i d hl
  cases hf
  obtain ⟨a',o',e',g,hq⟩:=b1'.get b2' hl
  cases e'
  rcases hq with ⟨v',rfl,d',e1',r1,_⟩ | ⟨_,e1'⟩
  ·cases e1'
   exact ⟨some v',g,q v' H3 kk (ff.rst _) (Res.rst S kk ⟨S3,r1⟩)⟩
  ·cases e1'
 ·rename_i hl
  cases hf
  obtain ⟨a',o',e',g,hq⟩:=b1'.get b2' hl
  cases e'
  rcases hq with ⟨v',rfl,d',e1',_⟩ | ⟨rfl,_⟩
  ·cases e1'
  ·exact ⟨none,g,q z H3 kk (ff.rst _) (((R3.still).from (k1.trans k2)).rst S kk)⟩
 ·cases hf
noncomputable def zq:PyData→PyData→Option Vl
 | .str z,.list ds=>match strsOf ds with
  | some ys=>if (ys.map (·.length)).sum + ys.length * z.length≤LIM then some (.im (.str (Txt.join z ys))) else none
  | none=>none
 | _,_=>none
noncomputable def G5 (f g:FB):FE:=aG zq f g
theorem Qs {X:Cx} {o e:Expr} {f g:FB} {apos cpos:Pos} (ho:PE X o (jD X.K f)) (he:PE X e (jD X.K g))
  (hbase:attributeBase o "join" X.env (eval o X.env)=eval o X.env:=by rfl)
  (hfew:((backTo cpos (starEach [e] X.env)).all (fun x=>!x.1)&&(backToKw cpos (keywordEach [] X.env)).all (fun x=>x.1.isSome)
   &&decide (([e]:List Expr).length + ([]:List Keyword).length + (if ([]:List Keyword).isEmpty then 0 else 1) < 30))=true:=by rfl)
  (hline:(apos.endLine==cpos.line)=true:=by rfl) (hs:starEach [e] X.env=(false,eval e X.env)::starEach [] X.env:=by rfl) (hplain:(backTo cpos (starEach [] X.env)).any (·.1)=false:=by rfl):
  PE X (.Call (.Attribute o "join" apos) [e] [] cpos) (tE X.K (G5 f g)):=
 (Rp PySem.F.plainAttrs_str PySem.F.slot_str_join PySem.F.type_str_join (Rq.r O7) ho (dw he jb hs) hbase hfew hline hs hplain).weak fun σ H Q aR=>by
  obtain ⟨Z,Θ,env,C,r,env',C',S,hf,q⟩:=aR
  unfold G5 aG at hf
  split at hf
  case h_2=>cases hf
  rename_i x e1 C1 h1
  split at hf
  case h_2=>cases hf
  rename_i y e2 C2 h2
  split at hf
  case h_2=>cases hf
  rename_i r0 h3
  cases hf
  refine ⟨Z,Θ,env,C,x,e1,C1,S,h1,fun v H1 k1 f1 S1 b1=>?_⟩
  unfold zq at h3
  split at h3
  case h_2=>cases h3
  rename_i z ds
  split at h3
  case h_2=>cases h3
  rename_i ys hys
  split at h3
  case isFalse=>cases h3
  rename_i hl
  cases h3
  cases b1.str
  refine ⟨rfl,Z,Θ,e1,C1,_,e2,C',S1,h2,fun w H2 k2 f2 S2 b2=>?_⟩
  obtain ⟨a,vs,rfl,ha,rr⟩:=b2.lst
  rw [pG hys rr] at ha
  have kk:=k1.trans k2
  refine ⟨z,a,ys,rfl,rfl,cJ.of ha,by unfold LIM at hl; omega,?_⟩
  exact q _ H2 kk ((f1.trans f2).rst _) (Res.rst S kk ⟨S2,rfl⟩)
noncomputable abbrev FO:=En→Ce→Option (Option Int×Ce)
noncomputable def X5 (K:PySem.W.Frag) (f:FO):TO:=fun σ H Q=>∃Z Θ env C o C',Sm K Z Θ env C σ H∧f env C=some (o,C')∧∀H',bK Θ H H'→Sm K Z Θ env C' σ H'→Q o H'
noncomputable def Vx:FO:=fun _ C=>some (none,C)
noncomputable def U7 (f:FB):FO:=fun env C=>match f env C with
 | some (.int i,_,C1)=>some (some i,C1)
 | _=>none
noncomputable def Qt {α:Type} (xs:List α) (lo hi:Option Int):List α:=(xs.drop (HT.dN xs.length 0 lo)).take (HT.dN xs.length xs.length hi - HT.dN xs.length 0 lo)
noncomputable def X6 (lo hi:Option Int):PyData→Option Vl
 | .str z=>if z.length≤LIM then some (.im (.str (Txt.slice z lo hi))) else none
 | .list ds=>some (.ow (.list (Qt ds lo hi)))
 | .tuple ds=>some (.im (.tuple (Qt ds lo hi)))
 | _=>none
noncomputable def U8 (f:FB) (lo hi:FO):FE:=fun env C=>match f env C with
 | some (d,e1,C1)=>match lo e1 C1 with
  | some (l,C2)=>match hi e1 C2 with
   | some (h,C3)=>match X6 l h d with
    | some r=>some (r,rst r env e1,C3)
    | none=>none
   | none=>none
  | none=>none
 | none=>none
theorem zu {E:Hp} {ds:List PyData} {vs:List V} {lo hi:Option Int} (r:dJ E ds vs):dJ E (Qt ds lo hi) (t8 vs lo hi):=by
 unfold Qt t8
 rw [bT r]
 exact Aw _ (Ax _ r)
section
variable {X:Cx} {e:Expr} {lo hi:Option Expr} {pos p2:Pos}
theorem PO.weak {o:Option Expr} {t t':TO} (h:PO X o t) (w:∀σ H Q,t' σ H Q→t σ H Q):PO X o t':=fun pins s σ H Q I q=>h pins s σ H Q I (w σ H Q q)
theorem R7:PO X none (X5 X.K Vx):=Ow.weak fun σ H Q aR=>by
 obtain ⟨Z,Θ,env,C,o,C',S,hf,q⟩:=aR
 cases hf
 exact q H (bK.refl _ _) S
theorem R8 {f:FB} (h:PE X e (jD X.K f)):PO X (some e) (X5 X.K (U7 f)):=(Ox h).weak fun σ H Q aR=>by
 obtain ⟨Z,Θ,env,C,o,C',S,hf,q⟩:=aR
 unfold U7 at hf
 split at hf
 ·rename_i i e1 C1 h1
  cases hf
  exact ⟨Z,Θ,env,C,_,e1,C',S,h1,fun v H1 k f S1 b1=>⟨i,b1,q H1 k (S.go k S1.cell)⟩⟩
 ·cases hf
theorem R9 {f:FB} {flo fhi:FO} (he:PE X e (jD X.K f)) (hl:PO X lo (X5 X.K flo)) (hh:PO X hi (X5 X.K fhi)):PE X (.Subscript e (.Slice lo hi none p2) pos) (tE X.K (U8 f flo fhi)):=(J9 ((Ug.or OJ).or Pj) he hl hh).weak fun σ H Q aR=>by
 obtain ⟨Z,Θ,env,C,r,env',C',S,hf,q⟩:=aR
 unfold U8 at hf
 split at hf
 case h_2=>cases hf
 rename_i d e1 C1 h1
 split at hf
 case h_2=>cases hf
 rename_i l C2 h2
 split at hf
 case h_2=>cases hf
 rename_i h C3 h3
 split at hf
 case h_2=>cases hf
 rename_i r0 h4
 cases hf
 refine ⟨Z,Θ,env,C,d,e1,C1,S,h1,fun v H1 k1 f1 S1 b1=>⟨Z,Θ,e1,C1,l,C2,S1,h2,fun H2 k2 S2=>⟨Z,Θ,e1,C2,h,C',S2,h3,fun H3 k3 S3=>?_⟩⟩⟩
 have kk:=(k1.trans k2).trans k3
 have b3:=b1.go S1 (k2.trans k3) (Fz.refl _)
 have fin:∀{w:V} {H4:Hp},bK Θ H3 H4→Res X.K Z Θ e1 C' σ H3 H4 r w→Q w H4:=fun {w H4} k4 R=>q w H4 (kk.trans k4) (f1.rst _) ((R.from kk).rst S (kk.trans k4))
 cases d <;> first | cases h4 | skip
 ·rename_i z
  simp only [X6] at h4
  split at h4
  ·rename_i hz
   cases h4
   cases b3.str
   exact .inl (.inl ⟨z,rfl,dg hz,fin (bK.refl _ _) (bh S3 rfl rfl)⟩)
  ·cases h4
 ·obtain ⟨a,vs,rfl,ha,rr⟩:=b3.lst
  exact .inl (.inr ⟨a,vs,rfl,cJ.of ha,fun p hp=>fin (bK.upd hp) (dO S3 (zu rr) hp)⟩)
 ·rename_i ds
  have b3':=b3
  obtain ⟨a,vs,rfl,ha,rr⟩:=b3.tup
  refine .inr ⟨a,vs,rfl,gw.of ha,fun ec=>?_,fun p hp=>fin (bK.upd hp) (tD S3 (zu rr) hp)⟩
  have rc:=zu (lo:=l) (hi:=h) rr
  rw [ec] at rc
  refine fin (bK.refl _ _) ⟨S3,a,vs,rfl,uD S3 ha,rc⟩
end
noncomputable def rO (T:mW) (ft:FT) (fk fv:FE) (fs:En):List PyData→List (PyData×PyData)→Ce→Option (List (PyData×PyData)×Ce)
 | [],acc,C=>some (acc,C)
 | d::r,acc,C=>match RV T d with
  | some ts=>match ft (jm ts++fs) C with
   | some (false,C1)=>rO T ft fk fv fs r acc C1
   | some (true,C1)=>match fk (jm ts++fs) C1 with
    | some (.im k,_,C2)=>match fv (jm ts++fs) C2 with
     | some (x,_,C3)=>match still x,cZ k with
      | .im y,some kk=>if acc.length < LIM then rO T ft fk fv fs r (jG cZ kk k y acc) C3 else none
      | _,_=>none
     | none=>none
    | _=>none
   | none=>none
  | none=>none
noncomputable def Ea:List (PyData×PyData)→Bool
 | []=>true
 | p::r=>yN p.2&&Ea r
noncomputable def Xa (fi:FI) (T:mW) (ft:FT) (fk fv:FE) (js:List Nat):FE:=fun env C=>match fi env C with
 | some (its,e1,C1)=>match rO T ft fk fv (frB js e1) its [] C1 with
  | some (kvs,C2)=>some (.ow (.dict kvs),if Ea kvs then e1 else mO js e1,C2)
  | none=>none
 | none=>none
theorem oF.yN {H H':Hp} (t:∀a vs,H a=some (.tup vs)→H' a=some (.tup vs)):∀{ds:List (PyData×PyData)} {vs:List V},Ea ds=true→oF H ds vs→oF H' ds vs
 | [],_,_,h=>h
 | (k,d)::ds,vs,n,h=>by
  obtain ⟨v,r,e,q,w⟩:=h
  have n':L2.yN d=true∧Ea ds=true:=by rw [Ea,Bool.and_eq_true] at n; exact n
  exact ⟨v,r,e,RZ.yN t n'.1 q,oF.yN t n'.2 w⟩
theorem Qu {K:PySem.W.Frag} {fi:FI} {T:mW} {ft:FT} {fk fv:FE} {js:List Nat}:∀σ H Q,tE K (Xa fi T ft fk fv js) σ H Q→tDC K (tI K true fi) T (fun _=>kh K ft) (fun _=>tE K fk) (fun _=>tE K fv) js σ H Q:=by
 rintro σ H Q ⟨Z,Θ,env,C,res,env',C',S,hf,q⟩
 unfold Xa at hf
 split at hf
 case h_2=>cases hf
 rename_i its e1 C1 h1
 split at hf
 case h_2=>cases hf
 rename_i kvs C2 h2
 cases hf
 refine ⟨Z,Θ,env,C,its,e1,C1,S,h1,fun J H1 k1 f1 S1 it D hD b=>?_⟩
 have N5:=S1.fz (lK js e1)
 have it':wu (aL Z Θ e1 σ) Θ H1 J its:=it
 let PB:=aL (jJ D Z (mO js e1) σ) Θ [] []
 have Bj:∀a,a∈PB ↔ a=D∨a∈aL Z Θ (mO js e1) σ:=fun a=>dR (js:=js) rfl
 have Zj:D∈PB:=(Bj D).mpr (.inl rfl)
 refine ⟨fun i m H2=>m=its.length - i∧i≤its.length∧∃acc ks fj C2,bK Θ H1 H2∧dW Θ C2 H2∧cz cZ acc=some ks∧H2 D=some (.dK (ks.zip fj))∧oF (er PB H2) acc fj∧rO T ft fk fv (frB js e1) (its.drop i) acc C2=some (kvs,C'),
  ⟨its.length,rfl,Nat.zero_le _,[],[],[],C1,bK.upd hD,⟨S1.cell.len,fun n b ns e2 e3=>?_⟩,rfl,aK,rfl,h2⟩,?_⟩
 ·have:=S1.cell.at_ n b ns e2 e3
  rw [aO (bC this hD)]
  exact this
 rintro i m H2 ⟨rfl,hi,acc,ks,fj,Ci,ki,ci,hks,hDi,ri,hc⟩
 have W5:aV (er (aL Z Θ e1 σ) H1) (er PB H2):=dZ ki S1.Gi fun b m=>by
  rcases (Bj b).mp m with rfl | m
  ·exact .inr hD
  ·exact .inl ((lK js e1).sub b m)
 have W6:Sm K (jJ D Z (mO js e1) σ) Θ (jm []++frB js e1) Ci (([]:List V).map some++frees js σ) H2:=N5.blk hD ki ⟨_,hDi,fun _ z=>nomatch z⟩ ci (show dJ _ [] [] from rfl)
 have Mf:∀a∈PB,H2 a≠none:=fun a m=>by
  have:=W6.yO a ((dR (js:=js) (jH (env:=jm []++frB js e1) nM)).mpr ((Bj a).mp m))
  exact this
 obtain ⟨U3,U4⟩:=it' i H2 PB W5 (yP ki) Mf
 cases hd:its[i]? with
 | none=>
  have hi2:i=its.length:=by
   have:=List.getElem?_eq_none_iff.mp hd
   omega
  rw [hi2,List.drop_length] at hc
  cases hc
  refine .inl ⟨U4 hi2,q _ H2 (k1.trans ki) ?_ ?_⟩
  ·split
   ·exact f1
   ·exact f1.trans (lK js e1)
  ·refine ⟨D,rfl,k1.none hD,?_⟩
   split
   ·rename_i hn
    have SD:=S1.Bd hD ki ⟨_,hDi,fun _ z=>nomatch z⟩ ci
    exact ⟨SD,fj,.inl ⟨ks,hks,hDi⟩,ri.yN (fun a vs e=>uD SD (bL e)) hn⟩
   ·have SD:=N5.Bd hD ki ⟨_,hDi,fun _ z=>nomatch z⟩ ci
    refine ⟨SD,fj,.inl ⟨ks,hks,hDi⟩,?_⟩
    have:er PB H2=er (aL (D::Z) Θ (mO js e1) σ) H2:=gj fun a=>by
     rw [Bj]
     show _ ↔ a∈D::aL Z Θ (mO js e1) σ
     rw [List.mem_cons]
    rw [←this]
    exact ri
 | some d=>
  have hlt:i < its.length:=(List.getElem?_eq_some_iff.mp hd).1
  have ed:its.drop i=d::its.drop (i + 1):=by
   rw [List.drop_eq_getElem_cons hlt]
   obtain ⟨_,e⟩:=List.getElem?_eq_some_iff.mp hd
   rw [e]
  rw [ed] at hc
  unfold rO at hc
  obtain ⟨go,yl⟩:=U3 d hd
  refine .inr ⟨go,fun x H3 y=>?_⟩
  obtain ⟨s3,r3⟩:=yl x H3 y
  split at hc
  case h_2=>cases hc
  rename_i ts ht
  obtain ⟨vs,tv,rvs⟩:=Ma (K:=K) ht r3 (rJ _ _)
  refine ⟨vs,tv,?_⟩
  have k3:bK Θ H1 H3:=ki.trans (bK.of s3)
  have Jh:H3 D=some (.dK (ks.zip fj)):=s3 _ _ hDi
  have c3:dW Θ Ci H3:=⟨ci.len,fun n b ns e2 e3=>s3 _ _ (ci.at_ n b ns e2 e3)⟩
  have r3':oF (er PB H3) acc fj:=ri.same (sX s3)
  have SB:Sm K (jJ D Z (mO js e1) σ) Θ (jm ts++frB js e1) Ci (vs.map some++frees js σ) H3:=N5.blk hD k3 ⟨_,Jh,fun _ z=>nomatch z⟩ c3 rvs
  have wA:D∉Θ:=fun m=>(S1.cell.dom D m).ne hD
  have stay:∀{Hx Hy:Hp},bK Θ Hx Hy→Hx D=some (.dK (ks.zip fj))→oF (er PB Hx) acc fj→Hy D=some (.dK (ks.zip fj))∧oF (er PB Hy) acc fj:=fun {Hx Hy} kk h1 h2=>
   ⟨kk.keep _ _ h1 wA,h2.same (dZ kk (fun a m=>(Bj a).mpr (.inr (bI.mpr (.inr (.inl m))))) fun a m=>.inl m)⟩
  have ePB:∀{eB:En} (Hx:Hp),Fz (jm ts++frB js e1) eB→er (aL (jJ D Z (mO js e1) σ) Θ eB (vs.map some++frees js σ)) Hx=er PB Hx:=fun {eB} Hx fz=>gj fun a=>by
   have Zm:aY eB (vs.map some++frees js σ)=[]:=by
    have:=(Fz.own (σ:=vs.map some++frees js σ) fz)
    rw [jH nM] at this
    exact List.sublist_nil.mp this
   rw [dR (js:=js) Zm,Bj]
  split at hc
  ·rename_i Ct Mg
   refine ⟨_,Θ,_,Ci,false,Ct,SB,Mg,fun H4 k4 S4=>vW ⟨its.length - (i + 1),by omega,rfl,hlt,acc,ks,fj,Ct,k3.trans k4,S4.cell,hks,(stay k4 Jh r3').1,(stay k4 Jh r3').2,hc⟩⟩
  ·rename_i Ct Mg
   split at hc
   case h_2=>cases hc
   rename_i kd eK CK hfk
   split at hc
   case h_2=>cases hc
   rename_i xr eB CB hfv
   split at hc
   case h_2=>cases hc
   rename_i yd kk W7 hkd
   split at hc
   case isFalse=>cases hc
   rename_i hlm
   refine ⟨_,Θ,_,Ci,true,Ct,SB,Mg,fun H4 k4 S4=>vX ⟨_,Θ,_,Ct,_,eK,CK,S4,hfk,fun y H5 k5 f5 R5=>?_⟩⟩
   have S5:=S4.go k5 R5.1.cell
   refine ⟨_,Θ,_,CK,xr,eB,CB,S5,hfv,fun z H6 k6 f6 R6=>?_⟩
   obtain ⟨S6,r6⟩:=R6.lE W7
   obtain ⟨Zk,r4⟩:=stay k4 Jh r3'
   obtain ⟨W8,X4⟩:=stay k5 Zk r4
   obtain ⟨hD6,r6'⟩:=stay k6 W8 X4
   rw [ePB H6 f6] at r6
   have yk:y=kV kk:=Uu hkd R5.2
   obtain ⟨ks',vs',g3,g4,g5⟩:=tH hkd r6 hks r6'
   refine ⟨ks.zip fj,kk,hD6,yk,?_,its.length - (i + 1),by omega,rfl,hlt,jG cZ kk kd yd acc,ks',vs',CB,?_,?_,g3,by rw [g5]; exact aK,?_,hc⟩
   ·rw [List.length_zip,sizeLine_eq,gU hks]
    unfold LIM at hlm
    omega
   ·have kk':=((k3.trans k4).trans k5).trans k6
    refine ⟨fun a o ha na=>?_,fun a ha=>?_⟩
    ·rw [aO (bC ha hD)]
     exact kk'.keep _ _ ha na
    ·by_cases z:a=D
     ·subst z; rw [aK]; exact Option.some_ne_none _
     ·rw [aO z]; exact kk'.dom a ha
   ·refine ⟨S6.cell.len,fun n b ns e2 e3=>?_⟩
    rw [aO]
    ·exact S6.cell.at_ n b ns e2 e3
    ·intro z
     subst z
     exact wA (List.mem_of_getElem? e2)
   ·rw [DN Zj]
    exact g4
  ·cases hc
section
variable {X:Cx} {NT NF:List Str} {js:List Nat} {kx vx tg iter:Expr} {ifs:List Expr} {T:mW} {fi:FI} {ft:FT} {fk fv:FE} {scope:Scope} {pos:Pos}
theorem Mt {i:Nat} {y:Str} {pos' spos:Pos} (B:jt X NT NF js scope) (tk:oU tg NT T) (hc:X.calm=true) (hu:X.A.units + 1 < cLine) (hi:PI X tg iter (tI X.K true fi))
  (hin:∀b,Ck (X.bk (NT++NF) scope b) ifs (kh X.K ft)∧PE (X.bk (NT++NF) scope b) kx (tE X.K fk)∧PE (X.bk (NT++NF) scope b) vx (tE X.K fv))
  (hsw:swapsWith (.DictComp kx vx [⟨tg,iter,ifs,0⟩] scope pos) (some (.Name y pos')) spos.line X.env=pure true) (hN:X.N.Nodup) (hI:X.N[i]?=some y) (hy:X.env.scope.names.lookup y=some .local)
  (hs:∀x,foldedSetIterable iter X.env x=pure x:=by intro _; rfl):PS X (.Assign [.Name y pos'] (.DictComp kx vx [⟨tg,iter,ifs,0⟩] scope pos) spos) (tS X.K (fSet i (Xa fi T ft fk fv js))):=(Ky B tk hc hu hi hin hsw hN hI hy hs).weak (uJ Qu)
end
end L2
namespace L2
open PySem PySem.Spec PyProof.Rows PySem.W
section
variable {X:Cx}
noncomputable def tL:List PyData→Option Vl
 | [.dict []]=>none
 | [.dict ((k,v)::r)]=>match qN k with
  | some (b::sh)=>if r.length < 63∧(((k,v)::r).all fun p=>decide (qN p.1=some (b::sh)))=true then some (.ow (.list (qO (((k,v)::r).map (·.1))))) else none
  | _=>none
 | _=>none
theorem xK {sh:List Bool}:∀{kvs:List (PyData×PyData)} {ks:List (List Key)},cz cO kvs=some ks→(∀p∈kvs,qN p.1=some sh)→kvs.map (·.1)=ks.map (fun k=>.tuple (k.map Bq))∧∀k∈ks,k.map eZ=sh
 | [],ks,h,_=>by cases h; exact ⟨rfl,fun _ m=>(nomatch m)⟩
 | (p,d)::kvs,ks,h,hs=>by
  unfold cz at h
  split at h
  ·rename_i k t h1 h2
   cases h
   obtain ⟨g1,g2⟩:=xK h2 fun q m=>hs q (List.mem_cons_of_mem _ m)
   have hp:=hs (p,d) List.mem_cons_self
   obtain ⟨xs,rfl,hx⟩:∃xs,p=.tuple xs∧keysOf xs=some k:=by
    have h1':cO p=some k:=h1
    cases p with
    | tuple xs=>exact ⟨xs,rfl,h1'⟩
    | _=>cases h1'
   have hp:(keysOf xs).map (fun ks=>ks.map eZ)=some sh:=hp
   rw [hx] at hp
   refine ⟨by rw [List.map_cons,g1,pH hx]; rfl,fun k' m=>?_⟩
   rcases List.mem_cons.mp m with rfl | m
   ·exact Option.some.inj hp
   ·exact g2 k' m
  ·cases h
theorem Mu {K:PySem.W.Frag}:zQ K (fun xs H Q=>∃(d:Addr) (kvs:List (List Key×V)) (b:Bool) (sh:List Bool),xs=[.ref d]∧H d=some (.dT kvs)∧kvs.length < 64∧(∀kv∈kvs,kv.1.map eZ=b::sh)∧
  ∀(l:Addr) (rows:List Row),H l=none→(rows.map (·.2)).Perm (kvs.map (·.1))→rows.map (·.2)=wg (kvs.map (·.1))→(∀r∈rows,H r.1=some (.tup (r.2.map kV)))→Q (.ref l) (upd H l (.lst (rows.map fun r=>V.ref r.1)))) tL:=by
 intro Z Θ env C σ H xs ds res S b e Q q
 unfold tL at e
 split at e
 ·cases e
 ·rename_i k0 v0 r0
  split at e
  case h_2=>cases e
  rename_i b0 sh hsh
  split at e
  case isFalse=>cases e
  rename_i hall
  cases e
  have hall':∀p∈(k0,v0)::r0,qN p.1=some (b0::sh):=fun d m=>of_decide_eq_true (List.all_eq_true.mp hall.2 d m)
  obtain ⟨v,rfl,bb⟩:=lM b
  obtain ⟨a,vs,rfl,da,r⟩:=bb.dct
  rcases da with ⟨ks,h1,ha⟩ | ⟨ks,⟨ne,h2⟩,ha⟩
  ·exfalso
   unfold cz at h1
   split at h1
   ·rename_i k' t g1 g2
    have g1:cZ k0=some k':=g1
    cases k0 <;> first | cases g1 | skip
    all_goals cases hsh
   ·cases h1
  ·obtain ⟨e1,e2⟩:=xK h2 hall'
   have lk:=gU h2
   have lr:=tB r
   have ez:(ks.zip vs).map (·.1)=ks:=by
    rw [List.map_fst_zip]
    rw [lk,lr]
    exact Nat.le_refl _
   refine ⟨a,ks.zip vs,b0,sh,rfl,ha,?_,fun kv m=>e2 kv.1 (List.of_mem_zip (a:=kv.1) (b:=kv.2) m).1,fun l rows hn p hp hr=>?_⟩
   ·rw [List.length_zip,lk,lr,List.length_cons]
    omega
   ·rw [ez] at hp
    have ek:(((k0,v0)::r0).map (·.1)).map GX=ks:=by
     rw [e1,List.map_map]
     refine (List.map_congr_left fun k _=>?_).trans (List.map_id ks)
     show (keysOf (k.map Bq)).getD []=k
     rw [uQ]
     rfl
    have es:(rows.map fun r=>PyData.tuple (r.2.map Bq))=qO (((k0,v0)::r0).map (·.1)):=by
     unfold qO
     rw [ek,←hp,List.map_map]
     rfl
    rw [←es] at q
    exact q _ _ (bK.upd hn) (dO S (uR fun r m=>uD S (hr r m)) hn)
 ·cases e
theorem Mv {K:PySem.W.Frag} {r r':List V→Hp→VK→Prop} {op op':List PyData→Option Vl} (h:zQ K r op) (h':zQ K r' op'):zQ K (fun xs H Q=>r xs H Q∨r' xs H Q) (fun ds=>match op ds with | some z=>some z | none=>op' ds):=by
 intro Z Θ env C σ H xs ds res S b e Q q
 cases h1:op ds with
 | some z=>
  simp only [h1] at e
  cases e
  exact .inl (h Z Θ env C σ H xs ds _ S b h1 Q q)
 | none=>
  simp only [h1] at e
  exact .inr (h' Z Θ env C σ H xs ds res S b e Q q)
end
noncomputable def pJ:List PyData→List PyData→List PyData
 | x::xs,y::ys=>.tuple [x,y]::pJ xs ys
 | _,_=>[]
theorem G6:∀{xs ys:List PyData} {i:Nat} {d:PyData},(pJ xs ys)[i]?=some d→∃x y,xs[i]?=some x∧ys[i]?=some y∧d=.tuple [x,y]
 | [],_,i,d,h=>by simp [pJ] at h
 | _::_,[],i,d,h=>by simp [pJ] at h
 | x::xs,y::ys,0,d,h=>by
  simp [pJ] at h
  exact ⟨x,y,rfl,rfl,h.symm⟩
 | x::xs,y::ys,i + 1,d,h=>by
  obtain ⟨a,b,h1,h2,h3⟩:=G6 (i:=i) (by simpa [pJ] using h)
  exact ⟨a,b,by simpa using h1,by simpa using h2,h3⟩
theorem Bt:∀{xs ys:List PyData},(pJ xs ys).length=min xs.length ys.length
 | [],_=>by simp [pJ]
 | _::_,[]=>by simp [pJ]
 | x::xs,y::ys=>by simp [pJ,Bt,Nat.succ_min_succ]
theorem U9 {K:PySem.W.Frag} {P T:List Addr} {H:Hp} {a b:Addr} {ds es:List PyData} {vs ws:List V} (ha:er T H a=some (.lst vs)) (hb:er T H b=some (.lst ws)) (r1:dJ (er P H) ds vs) (r2:dJ (er P H) es ws):wu P T H (Y7 K a b) (pJ ds es):=fun i H2 P2 s1 s2 n=>by
 have h2:cJ K H2 a vs:=cJ.of (bL (s2 _ _ ha))
 have h3:cJ K H2 b ws:=cJ.of (bL (s2 _ _ hb))
 refine ⟨fun d hd=>?_,fun hi=>⟨vs,ws,h2,h3,by rw [hi,Bt,bT r1,bT r2]⟩⟩
 obtain ⟨x,y,e1,e2,rfl⟩:=G6 hd
 obtain ⟨v,ev,rv⟩:=nG r1 e1
 obtain ⟨w,ew,rw'⟩:=nG r2 e2
 refine ⟨⟨vs,ws,h2,h3,?_⟩,fun z H3 yl=>?_⟩
 ·have l1:=(List.getElem?_eq_some_iff.mp ev).1
  have l2:=(List.getElem?_eq_some_iff.mp ew).1
  omega
 ·obtain ⟨p,v',w',hp,rfl,rfl,hh⟩:=yl
  obtain ⟨g1,g2⟩:=hh vs ws h2 h3
  rw [ev] at g1
  rw [ew] at g2
  cases g1
  cases g2
  have sp:aV H2 (upd H2 p (.tup [v,w])):=aV.upd hp
  refine ⟨sp,p,[v,w],rfl,?_,v,[w],rfl,rv.same (s1.trans (sX sp)),w,[],rfl,rw'.same (s1.trans (sX sp)),rfl⟩
  unfold er
  rw [if_neg (fun m=>n p m hp),aK]
noncomputable def X7 (f:NQ):FI:=fun env C=>match f env C with
 | some ([.list xs,.list ys],e1,C1)=>some (pJ xs ys,e1,C1)
 | _=>none
theorem Va {X:Cx} {es:List Expr} {k:Nat} {ps:Pos} {x y:Expr} {f:NQ} {p pos:Pos} (hg:Gl X "zip") (hm:X.mg "zip"=none) (ha:PA X [x,y] (RK X.K f)) (hs:starEach [x,y] X.env=[(false,eval x X.env),(false,eval y X.env)]:=by rfl) (hs2:starEach [y] X.env=[(false,eval y X.env)]:=by rfl):
  PI X (.Tuple es k ps) (.Call (.Name "zip" p) [x,y] [] pos) (tI X.K true (X7 f)):=(Uk hg hm ha hs hs2).weak fun σ H R aR=>by
 obtain ⟨Z,Θ,env,C,its,env',C',S,hf,q⟩:=aR
 unfold X7 at hf
 split at hf
 case h_2=>cases hf
 rename_i xs ys e1 C1 h1
 cases hf
 refine ⟨Z,Θ,env,C,_,env',C',S,h1,fun vs H1 k f S1 b1=>?_⟩
 cases b1 with
 | cons b1 b2=>
  cases b2 with
  | cons b2 b3=>
   cases b3
   obtain ⟨a,vs1,rfl,ha,r1⟩:=b1
   obtain ⟨b,vs2,rfl,hb,r2⟩:=b2
   exact ⟨a,b,vs1,vs2,rfl,cJ.of (bL ha),cJ.of (bL hb),q _ H1 k f S1 (U9 ha hb r1 r2)⟩
end L2
namespace L2
open PySem PySem.Spec PyProof.Rows PySem.W
section
variable {X:Cx} {tg e:Expr}
noncomputable def itD2:PyData→Option (List PyData)
 | .list ds=>some ds
 | .tuple ds=>some ds
 | _=>none
noncomputable def iB2 (f:FB):FI:=fun env C=>match f env C with
 | some (d,e1,C1)=>match itD2 d with
  | some its=>some (its,e1,C1)
  | none=>none
 | none=>none
noncomputable def iV2 (f:FE):FI:=fun env C=>match f env C with
 | some (r,e1,C1)=>match still r with
  | .im d=>match itD2 d with
   | some its=>some (its,e1,C1)
   | none=>none
  | _=>none
 | none=>none
theorem Sd {f:FB} (h:PE X e (jD X.K f)):PI X tg e (tI X.K true (iB2 f)):=((sU h).or (yt h)).weak fun σ H R aR=>by
 obtain ⟨Z,Θ,env,C,its,env',C',S,hf,q⟩:=aR
 unfold iB2 at hf
 split at hf
 ·rename_i d e1 C1 h1
  split at hf
  ·rename_i ys hi
   cases hf
   cases d <;> first | cases hi | skip
   ·refine .inl ⟨Z,Θ,env,C,_,env',C',S,h1,fun v H1 k f S1 b=>?_⟩
    obtain ⟨a,vs,rfl,ha,r⟩:=b
    exact ⟨a,rfl,⟨vs,cJ.of (bL ha)⟩,q _ H1 k f S1 (tK ha r)⟩
   ·refine .inr ⟨Z,Θ,env,C,_,env',C',S,h1,fun v H1 k f S1 b=>?_⟩
    obtain ⟨a,vs,rfl,ha,r⟩:=b
    exact ⟨a,rfl,⟨vs,gw.of (bL ha)⟩,q _ H1 k f S1 (zj ha r)⟩
  ·cases hf
 ·cases hf
theorem Xb {f:FE} (h:PE X e (tE X.K f)):PI X tg e (tI X.K false (iV2 f)):=((sU h).or (yt h)).weak fun σ H R aR=>by
 obtain ⟨Z,Θ,env,C,its,env',C',S,hf,q⟩:=aR
 unfold iV2 at hf
 split at hf
 ·rename_i r e1 C1 h1
  split at hf
  ·rename_i d hd
   split at hf
   ·rename_i ys hi
    cases hf
    cases d <;> first | cases hi | skip
    ·refine .inl ⟨Z,Θ,env,C,_,env',C',S,h1,fun v H1 k f R=>?_⟩
     obtain ⟨S1,a,vs,rfl,ha,r⟩:=R.lE hd
     exact ⟨a,rfl,⟨vs,cJ.of (bL ha)⟩,q _ H1 k f S1 (tK ha r)⟩
    ·refine .inr ⟨Z,Θ,env,C,_,env',C',S,h1,fun v H1 k f R=>?_⟩
     obtain ⟨S1,a,vs,rfl,ha,r⟩:=R.lE hd
     exact ⟨a,rfl,⟨vs,gw.of (bL ha)⟩,q _ H1 k f S1 (zj ha r)⟩
   ·cases hf
  ·cases hf
 ·cases hf
theorem uU (hc:X.calm=true):cI X (.builtin "sorted") (fun xs H Q=>∃d:Addr,xs=[.ref d]∧H d=some (.dK [])∧∀l,H l=none→Q (.ref l) (upd H l (.lst []))):=by
 intro pins s σ H xs us Q I r h
 obtain ⟨d,rfl,hd,q⟩:=h
 refine cF (jW hc pins s σ (upd H d (.dT [])) [.ref d] us (fun v H'=>∃l,v=.ref l∧H l=none∧H'=upd (upd H d (.dT [])) l (.lst [])) (I.WR hd) r ⟨d,[],true,[],rfl,aK,by decide,(fun _ m=>nomatch m),fun l rows hl p _ _=>?_⟩) fun u s' ⟨v,H',I',rv,l,ev,hl,eH⟩=>?_
 ·have:rows=[]:=by
   cases rows with
   | nil=>rfl
   | cons _ _=>exact absurd p.length_eq (by simp)
  subst this
  refine ⟨l,rfl,?_,rfl⟩
  by_cases z:l=d
  ·subst z; rw [aK] at hl; cases hl
  ·rw [aO z] at hl; exact hl
 ·subst ev eH
  have nd:d≠l:=bC hd hl
  have e:upd (upd H d (.dT [])) l (.lst [])=upd (upd H l (.lst [])) d (.dT []):=by
   funext b
   by_cases h1:b=l
   ·subst h1; rw [aK,aO (Ne.symm nd),aK]
   ·rw [aO h1]
    by_cases h2:b=d
    ·subst h2; rw [aK,aK]
    ·rw [aO h2,aO h2,aO h1]
  rw [e] at I'
  exact ⟨.ref l,_,I'.XS (by rw [aO nd]; exact hd),rv,q l hl⟩
noncomputable def zx:List PyData→Option Vl
 | [.dict []]=>some (.ow (.list []))
 | _=>none
theorem Mw {K:PySem.W.Frag}:zQ K (fun xs H Q=>∃d:Addr,xs=[.ref d]∧H d=some (.dK [])∧∀l,H l=none→Q (.ref l) (upd H l (.lst []))) zx:=by
 intro Z Θ env C σ H xs ds res S b e Q q
 unfold zx at e
 split at e
 case h_2=>cases e
 cases e
 obtain ⟨v,rfl,bb⟩:=lM b
 obtain ⟨a,vs,rfl,da,r⟩:=bb.dct
 rcases da with ⟨ks,h1,ha⟩ | ⟨ks,⟨ne,_⟩,_⟩
 ·cases h1
  exact ⟨a,rfl,ha,fun l hl=>q _ _ (bK.upd hl) (dO S rfl hl)⟩
 ·exact absurd rfl ne
noncomputable def cX (ds:List PyData):Option Vl:=match gZ ds with
 | some z=>some z
 | none=>match tL ds with
  | some z=>some z
  | none=>zx ds
noncomputable abbrev Mx (K:PySem.W.Frag):List V→Hp→VK→Prop:=fun xs H Q=>DW K xs H Q∨((∃(d:Addr) (kvs:List (List Key×V)) (b:Bool) (sh:List Bool),xs=[.ref d]∧H d=some (.dT kvs)∧kvs.length < 64∧(∀kv∈kvs,kv.1.map eZ=b::sh)∧
  ∀(l:Addr) (rows:List Row),H l=none→(rows.map (·.2)).Perm (kvs.map (·.1))→rows.map (·.2)=wg (kvs.map (·.1))→(∀r∈rows,H r.1=some (.tup (r.2.map kV)))→Q (.ref l) (upd H l (.lst (rows.map fun r=>V.ref r.1))))∨∃d:Addr,xs=[.ref d]∧H d=some (.dK [])∧∀l,H l=none→Q (.ref l) (upd H l (.lst [])))
theorem jL (hc:X.calm=true):cI X (.builtin "sorted") (Mx X.K):=DX.or ((jW hc).or (uU hc))
theorem pK {K:PySem.W.Frag}:zQ K (Mx K) cX:=Mv Jj (Mv Mu Mw)
end
noncomputable def My:FN:=fun _ _=>none
theorem Qv {P:Program} {w:World} {K:PySem.W.Frag} {mg:Str→Option Value} {base:Heap} {f:Addr} {fd:FuncData} {ps:List Str}:dD P w K mg base rD 0 f fd ps (spT K My):=by
 have no:∀vs H Q E,¬spT K My vs H Q E:=fun vs H Q E ⟨_,_,_,_,_,_,_,_,h,_⟩=>nomatch h
 exact ⟨fun _ _ _ _ h=>(no _ _ _ _ h).elim,fun _ _ _ _ _ _ _ _ _ _ _ _ _ h=>(no _ _ _ _ h).elim⟩
end L2
namespace L2
open PySem PySem.Spec PyProof.Rows PySem.W
noncomputable def uV (i:Nat) (f:FB):FE:=fun env C=>match env[i]? with
 | some (some (.ce n))=>match f env C with
  | some (.int k,_,C1)=>match C1[n]? with
   | some ns=>match gC ns k with
    | some z=>some (.im (.int z),env,C1)
    | none=>none
   | none=>none
  | _=>none
 | _=>none
theorem nO {X:Cx} {o k:Expr} {i:Nat} {pos:Pos} {f:FB} (ho:PE X o (tW i)) (hk:PE X k (jD X.K f)) (hs:sV k):PE X (.Subscript o k pos) (tE X.K (uV i f)):=(Ka yD ho hk hs).weak fun σ H Q aR=>by
 obtain ⟨Z,Θ,env,C,r,env',C',S,hf,q⟩:=aR
 unfold uV at hf
 split at hf
 case h_2=>cases hf
 rename_i n h0
 split at hf
 case h_2=>cases hf
 rename_i z e1 C1 h1
 split at hf
 case h_2=>cases hf
 rename_i ns hns
 split at hf
 case h_2=>cases hf
 rename_i y hy
 cases hf
 obtain ⟨v,ev,a,rfl,hth⟩:=S.slot i _ h0
 refine ⟨_,ev,Z,Θ,env,C,_,e1,C',S,h1,fun w H1 k1 f1 S1 b1=>?_⟩
 have S2:=S.go k1 S1.cell
 have ha:=S1.cell.at_ n a ns hth hns
 refine ⟨a,_,z,.int y,rfl,b1,cJ.of ha,?_,q _ H1 k1 (Fz.refl _) ⟨S2,rfl⟩⟩
 unfold gC at hy ⊢
 rw [List.length_map]
 cases hj:yz ns.length z with
 | none=>rw [hj] at hy; cases hy
 | some j=>
  rw [hj] at hy
  show (ns.map V.int)[j]?=_
  rw [List.getElem?_map,show ns[j]?=some y from hy]
  rfl
end L2
namespace L2
open PySem PySem.Spec PyProof.Rows PySem.W
noncomputable def Bx (C:Ce) (b:Nat) (n:Int):Prop:=∃x y z:Int,C[b]?=some [x,y,z]∧0≤x∧0≤y∧y≤3000000000∧0≤z∧z≤n
theorem Bx.mono {C:Ce} {b:Nat} {n m:Int} (h:Bx C b n) (hm:n≤m):Bx C b m:=by
 obtain ⟨x,y,z,h1,h2,h3,h4,h5,h6⟩:=h
 exact ⟨x,y,z,h1,h2,h3,h4,h5,by omega⟩
theorem zy {C:Ce} {b:Nat} {l l':List Int} (h:C[b]?=some l):(C.set b l')[b]?=some l':=by
 rw [List.getElem?_set,if_pos rfl,if_pos (List.getElem?_eq_some_iff.mp h).1]
theorem Bu {C C':Ce} (h:C'.length=C.length):C'.take C.length=C':=List.take_of_length_le (by omega)
theorem mul_eq {i j:Int} (h:(-18446744073709551616 < i∧i < 18446744073709551616)∨(-18446744073709551616 < j∧j < 18446744073709551616)):lB (.int i) (.int j)=some (.im (.int (i * j))):=by
 unfold lB
 exact if_pos h
theorem pow_eq {i j:Int} (h0:0≤j) (h1:j≤1000000) (h2:i.natAbs < 2 ^ 64):mZ (.int i) (.int j)=some (.im (.int (i ^ j.toNat))):=by
 unfold mZ
 exact if_pos ⟨h0,h1,h2⟩
theorem mod_eq {i j:Int} (h:0 < j):jX (.int i) (.int j)=some (.im (.int (i % j))):=by
 unfold jX
 exact if_pos h
theorem fdiv_eq {i j:Int} (h:0 < j) (h1:j < 1073741824):qC (.int i) (.int j)=some (.im (.int (i / j))):=by
 unfold qC
 exact if_pos ⟨h,h1⟩
theorem Bv {g:FG} {body:FS} (I:Nat→En→Ce→Prop):∀{its:List PyData} {env:En} {C:Ce} {k:Nat},I k env C→
  (∀i d env C,its[i]?=some d→I (k + i) env C→∃e1 fl env' C',g d env=some e1∧body e1 C=some (fl,env',C')∧(fl=.nx∨fl=.ct)∧I (k + i + 1) env' C')→
  ∃env' C',m7 g body its env C=some (.nx,env',C')∧I (k + its.length) env' C'
 | [],env,C,k,h,_=>⟨env,C,rfl,h⟩
 | d::r,env,C,k,h,st=>by
  obtain ⟨e1,fl,Zo,C1,h1,h2,h3,h4⟩:=st 0 d env C rfl h
  obtain ⟨Zq,C2,h5,h6⟩:=Bv I (its:=r) (env:=Zo) (C:=C1) (k:=k + 1) h4 fun i d' env C hd hi=>by
   have:=st (i + 1) d' env C (by simpa using hd) (by rw [show k + (i + 1)=k + 1 + i by omega]; exact hi)
   rw [show k + (i + 1) + 1=k + 1 + i + 1 by omega] at this
   exact this
  refine ⟨Zq,C2,?_,by rw [List.length_cons,show k + (r.length + 1)=k + 1 + r.length by omega]; exact h6⟩
  unfold m7
  rw [h1]
  simp only
  rw [h2]
  rcases h3 with rfl | rfl <;> exact h5
theorem cA {g:FG} {body:FS} (I:Nat→En→Ce→Prop) {its:List PyData} {env:En} {C:Ce} (h:I 0 env C)
  (st:∀i d env C,its[i]?=some d→I i env C→∃e1 fl env' C',g d env=some e1∧body e1 C=some (fl,env',C')∧(fl=.nx∨fl=.ct)∧I (i + 1) env' C'):
  ∃env' C',m7 g body its env C=some (.nx,env',C')∧I its.length env' C':=by
 have:=Bv I (k:=0) h fun i d env C hd hi=>by
  rw [Nat.zero_add] at hi ⊢
  exact st i d env C hd hi
 rw [Nat.zero_add] at this
 exact this
theorem jx (lo:Int) (n:Nat):(lJ lo n).length=n:=by unfold lJ; rw [List.length_map,List.length_range]
theorem jM {lo:Int} {n i:Nat} {d:PyData} (h:(lJ lo n)[i]?=some d):d=.int (lo + i)∧i < n:=by
 unfold lJ at h
 rw [List.getElem?_map] at h
 by_cases hi:i < n
 ·rw [List.getElem?_range hi] at h
  exact ⟨(Option.some.inj h).symm,hi⟩
 ·rw [List.getElem?_eq_none (by rw [List.length_range]; omega)] at h
  cases h
theorem nP {T:mW} {ft:FT} {fe:FE} {fs:En} {C:Ce} (p:PyData→Bool) (g:PyData→PyData):∀{its:List PyData},(∀d∈its,∃ts,RV T d=some ts∧ft (jm ts++fs) C=some (p d,C)∧(p d=true→∃x e,fe (jm ts++fs) C=some (x,e,C)∧still x=.im (g d)))→
  cQ T ft fe fs its C=some ((its.filter p).map g,C)
 | [],_=>rfl
 | d::r,h=>by
  obtain ⟨ts,h1,h2,h3⟩:=h d List.mem_cons_self
  have ih:=nP p g (its:=r) fun d m=>h d (List.mem_cons_of_mem _ m)
  unfold cQ
  simp only [h1]
  rw [h2]
  cases hp:p d with
  | true=>
   obtain ⟨x,e,h4,h5⟩:=h3 hp
   simp only [h4,h5,ih,List.filter_cons,hp,if_true,List.map_cons]
  | false=>
   simp only [ih,List.filter_cons,hp]
   rfl
theorem xM {T:mW} {fe:FE} {fs:En} (I:Nat→Ce→Prop) (R:Nat→PyData→Prop):∀{its:List PyData} {C:Ce} {k:Nat},I k C→(∀i d C,its[i]?=some d→I (k + i) C→∃ts x e C' y,RV T d=some ts∧fe (jm ts++fs) C=some (x,e,C')∧still x=.im y∧R (k + i) y∧I (k + i + 1) C')→
  ∃ys C',cQ T fY fe fs its C=some (ys,C')∧I (k + its.length) C'∧ys.length=its.length∧∀i y,ys[i]?=some y→R (k + i) y
 | [],C,k,h,_=>⟨[],C,rfl,h,rfl,fun i y e=>by simp at e⟩
 | d::r,C,k,h,st=>by
  obtain ⟨ts,x,e,C1,y,h1,h2,h3,h4,h5⟩:=st 0 d C rfl h
  obtain ⟨ys,C2,h6,h7,h8,h9⟩:=xM I R (its:=r) (C:=C1) (k:=k + 1) h5 fun i d' C hd hi=>by
   have:=st (i + 1) d' C (by simpa using hd) (by rw [show k + (i + 1)=k + 1 + i by omega]; exact hi)
   rw [show k + (i + 1) + 1=k + 1 + i + 1 by omega,show k + (i + 1)=k + 1 + i by omega] at this
   exact this
  refine ⟨y::ys,C2,?_,by rw [List.length_cons,show k + (r.length + 1)=k + 1 + r.length by omega]; exact h7,by simp [h8],fun i z hz=>?_⟩
  ·unfold cQ
   simp only [h1,fY,h2,h3]
   rw [h6]
  ·cases i with
   | zero=>simp at hz; subst hz; exact h4
   | succ i=>
    have:=h9 i z (by simpa using hz)
    rw [show k + (i + 1)=k + 1 + i by omega]
    exact this
theorem Vb {f:FE} {env e1:En} {C C1:Ce} {r:Vl} {d:PyData} (h:f env C=some (r,e1,C1)) (h2:dat r=some d):az f env C=some (d,e1,C1):=by
 unfold az
 simp only [h,h2,Option.map_some]
theorem Vc {op:PyData→PyData→Option Vl} {fa fb:FB} {env e1 e2:En} {C C1 C2:Ce} {x y:PyData} {r:Vl} (h1:fa env C=some (x,e1,C1)) (h2:fb e1 C1=some (y,e2,C2)) (h3:op x y=some r):aG op fa fb env C=some (r,rst r env e2,C2):=by
 unfold aG
 simp only [h1,h2,h3]
theorem uW {α:Type} {xs:List α} {k:Int} (h0:0≤k) (h1:k < xs.length):∃x,gC xs k=some x∧xs[k.toNat]?=some x:=by
 have hk:k.toNat < xs.length:=by omega
 refine ⟨xs[k.toNat],?_,List.getElem?_eq_getElem hk⟩
 unfold gC yz
 rw [if_pos h0,if_pos h1]
 exact List.getElem?_eq_getElem hk
end L2
namespace L2
open PySem PySem.Spec PyProof.Rows PySem.W
noncomputable def Xc (z:Str):Bool:=z.cps.toList.all fun c=>decide (97≤c)&&decide (c≤122)
noncomputable def nameB (z:Str):Bool:=decide (1≤z.length)&&decide (z.length≤8)&&Xc z
noncomputable abbrev abc:Str:=Str.ofString "abcdefghijklmnopqrstuvwxyz"
theorem Vd {r:Int} (r0:0≤r) (r1:r < 26):gC abc.cps.toList r=some (97 + r.toNat):=by
 have h:∀k:Nat,k < 26→gC abc.cps.toList (k:Int)=some (97 + k):=by decide +kernel
 have:=h r.toNat (by omega)
 rwa [Int.toNat_of_nonneg r0] at this
theorem uX:∀(l:List Nat) (a:Array Nat),((l.map fun c=>(⟨#[c]⟩:Str)).foldl (fun acc p=>acc++(Str.ofString "").cps++p.cps) a).toList=a.toList++l
 | [],a=>by simp
 | c::r,a=>by
  simp only [List.map_cons,List.foldl_cons]
  rw [uX r]
  have e:(Str.ofString "").cps=#[]:=by decide +kernel
  rw [e]
  simp
theorem Eb:∀(l:List Nat),(Txt.join (Str.ofString "") (l.map fun c=>(⟨#[c]⟩:Str))).cps.toList=l
 | []=>by decide +kernel
 | c::r=>by
  show (((r.map fun c=>(⟨#[c]⟩:Str))).foldl (fun acc p=>acc++(Str.ofString "").cps++p.cps) #[c]).toList=c::r
  rw [uX r]
  rfl
theorem G7:∀ys:List Nat,(ys.map ((fun x:Str=>x.length) ∘ fun c=>(⟨#[c]⟩:Str))).sum=ys.length
 | []=>rfl
 | c::r=>by
  rw [List.map_cons,List.sum_cons,G7 r,List.length_cons]
  show 1 + r.length=r.length + 1
  omega
theorem Jk {l:List Nat} (h1:1≤l.length) (h2:l.length≤8) (h3:∀c∈l,97≤c∧c≤122):nameB (Txt.join (Str.ofString "") (l.map fun c=>(⟨#[c]⟩:Str)))=true:=by
 have e:=Eb l
 have e2:(Txt.join (Str.ofString "") (l.map fun c=>(⟨#[c]⟩:Str))).length=l.length:=by
  show (Txt.join (Str.ofString "") (l.map fun c=>(⟨#[c]⟩:Str))).cps.size=_
  rw [show l.length=(Txt.join (Str.ofString "") (l.map fun c=>(⟨#[c]⟩:Str))).cps.toList.length from congrArg List.length e.symm]
  simp
 unfold nameB Xc
 rw [e,e2]
 simp only [Bool.and_eq_true,decide_eq_true_eq,List.all_eq_true]
 exact ⟨⟨h1,h2⟩,h3⟩
theorem Xd (n:Nat):(Builtin.Str.strSliceIndices none (some 7) 1 n).length≤7:=by
 unfold Builtin.Str.strSliceIndices sliceRange
 simp only [show (1:Int) > 0 by decide,if_true,List.length_map,List.length_range]
 split <;> (try split) <;> (try split) <;> (try simp only [Int.ediv_one]) <;> omega
theorem uY (z:Str):(Txt.slice z none (some 7)).length≤7:=by
 unfold Txt.slice
 split
 ·rename_i h
  have h2:(Builtin.Str.strSliceIndices none (some 7) 1 z.length).length=z.length:=by simpa using h
  have:=Xd z.length
  omega
 ·show (((Builtin.Str.strSliceIndices none (some 7) 1 z.length).filterMap (z.cps[·]?)).toArray).size≤7
  rw [List.size_toArray]
  exact Nat.le_trans (List.length_filterMap_le _ _) (Xd _)
theorem Qw {z:Str} {l u:Option Int} {c:Nat} (hc:c∈(Txt.slice z l u).cps.toList):c∈z.cps.toList:=by
 unfold Txt.slice at hc
 split at hc
 ·exact hc
 ·have hc':c∈((Builtin.Str.strSliceIndices l u 1 z.length).filterMap (z.cps[·]?)):=by simpa using hc
  obtain ⟨i,_,e⟩:=List.mem_filterMap.mp hc'
  have:=Array.mem_of_getElem? e
  simpa using this
noncomputable def j9 (z:Str) (k:Nat):Str:=Txt.slice z none (some 7)++(⟨#[97 + k]⟩:Str)
theorem qP (z:Str) (k:Nat):(j9 z k).cps.toList=(Txt.slice z none (some 7)).cps.toList++[97 + k]:=by
 show ((Txt.slice z none (some 7)).cps++#[97 + k]).toList=_
 simp
theorem xN {z:Str} (h:nameB z=true) {k:Nat} (hk:k < 26):nameB (j9 z k)=true:=by
 have hl:(j9 z k).length=(Txt.slice z none (some 7)).length + 1:=by
  show ((Txt.slice z none (some 7)).cps++#[97 + k]).size=_
  rw [Array.size_append]
  rfl
 have:=uY z
 unfold nameB Xc at h ⊢
 simp only [Bool.and_eq_true,decide_eq_true_eq,List.all_eq_true] at h ⊢
 refine ⟨⟨by omega,by omega⟩,fun c hc=>?_⟩
 rw [qP] at hc
 rcases List.mem_append.mp hc with hc | hc
 ·exact h.2 c (Qw hc)
 ·rw [List.mem_singleton.mp hc]
  omega
theorem Mz {z:Str} {i j:Nat} (h:j9 z i=j9 z j):i=j:=by
 have e:(j9 z i).cps.toList=(j9 z j).cps.toList:=by rw [h]
 rw [qP,qP] at e
 have:=List.append_cancel_left e
 simp at this
 exact this
theorem Bw {α:Type} [DecidableEq α]:∀{l m:List α},l.Nodup→(∀x∈l,x∈m)→l.length≤m.length
 | [],_,_,_=>Nat.zero_le _
 | a::l,m,hn,hs=>by
  have hn':=List.nodup_cons.mp hn
  have ha:=hs a List.mem_cons_self
  have ih:=Bw (m:=m.erase a) hn'.2 fun x hx=>(List.mem_erase_of_ne (fun (e:x=a)=>hn'.1 (by rw [←e]; exact hx))).mpr (hs x (List.mem_cons_of_mem _ hx))
  rw [List.length_erase_of_mem ha] at ih
  have:0 < m.length:=List.length_pos_of_mem ha
  rw [List.length_cons]
  omega
theorem MF (z:Str) {zs:List Str} (h:zs.length < 26):∃k,k < 26∧j9 z k∉zs:=by
 by_cases hx:∃k,k < 26∧j9 z k∉zs
 ·exact hx
 ·have all:∀x∈(List.range 26).map (j9 z),x∈zs:=fun x hm=>by
   obtain ⟨k,hk,rfl⟩:=List.mem_map.mp hm
   by_cases hm2:j9 z k∈zs
   ·exact hm2
   ·exact absurd ⟨k,List.mem_range.mp hk,hm2⟩ hx
  have nd:((List.range 26).map (j9 z)).Nodup:=by
   rw [List.Nodup,List.pairwise_map]
   exact List.Pairwise.imp (fun {a b} hab e=>hab (Mz e)) (List.nodup_range (n:=26))
  have:=Bw nd all
  simp at this
  omega
noncomputable def Names (zs:List Str):Prop:=zs.Nodup∧∀z∈zs,nameB z=true
theorem By (z:Str) (zs:List Str):inD (.str z) (zs.map .str)=decide (z∈zs):=by
 unfold inD
 rw [Bool.eq_iff_iff,List.any_map]
 simp [List.any_eq_true,Kc,toV]
theorem uZ {z:Str} (h:nameB z=true):1≤z.length∧z.length≤8∧∀c∈z.cps.toList,97≤c∧c≤122:=by
 unfold nameB Xc at h
 simp only [Bool.and_eq_true,decide_eq_true_eq,List.all_eq_true] at h
 exact ⟨h.1.1,h.1.2,h.2⟩
end L2
namespace L2
open PySem PySem.Spec PyProof.Rows PySem.W
noncomputable def Asc (z:Str):Prop:=∀c∈z.cps.toList,c < 128
noncomputable def wB (n:Nat) (z:Str):Prop:=Asc z∧z.length≤n
theorem wB.mono {n m:Nat} {z:Str} (h:wB n z) (hm:n≤m):wB m z:=⟨h.1,Nat.le_trans h.2 hm⟩
theorem wB.line {n:Nat} {z:Str} (h:wB n z) (hn:n≤100000:=by omega):z.length≤sizeLine:=O8 (m:=100000) (Nat.le_trans h.2 hn)
theorem wB.slice {n:Nat} {z:Str} (h:wB n z) (l u:Option Int):wB n (Txt.slice z l u):=by
 refine ⟨fun c hc=>?_,Nat.le_trans (Txt.slice_le z l u) h.2⟩
 unfold Txt.slice at hc
 split at hc
 ·exact h.1 c hc
 ·have hc':c∈((Builtin.Str.strSliceIndices l u 1 z.length).filterMap (z.cps[·]?)):=by simpa using hc
  obtain ⟨i,_,e⟩:=List.mem_filterMap.mp hc'
  refine h.1 c ?_
  have:=Array.mem_of_getElem? e
  simpa using this
theorem wB.add {n m:Nat} {x y:Str} (h:wB n x) (g:wB m y):wB (n + m) (x++y):=by
 have e:(x++y).cps=x.cps++y.cps:=rfl
 refine ⟨fun c hc=>?_,?_⟩
 ·rw [e] at hc
  have:c∈x.cps.toList∨c∈y.cps.toList:=by simpa using hc
  exact this.elim (h.1 c) (g.1 c)
 ·show (x++y).cps.size≤_
  rw [e,Array.size_append]
  exact Nat.add_le_add h.2 g.2
theorem wB.name {z:Str} (h:nameB z=true):wB 8 z:=by
 unfold nameB Xc at h
 simp only [Bool.and_eq_true,decide_eq_true_eq,List.all_eq_true] at h
 exact ⟨fun c hc=>by have:=h.2 c hc; omega,h.1.2⟩
noncomputable def bO (zs:List Str) (ps:List (Str×Str)):Prop:=∀(i:Nat) (x:Str×Str),ps[i]?=some x→zs[i]?=some x.1∧(x.2=Str.ofString ""∨∃j,j < i∧zs[j]?=some x.2)
theorem bO.snoc {zs:List Str} {ps:List (Str×Str)} {a b:Str} (h:bO zs ps) (ha:zs[ps.length]?=some a) (hb:b=Str.ofString ""∨∃j,j < ps.length∧zs[j]?=some b):bO zs (ps++[(a,b)]):=by
 intro i x e
 by_cases hi:i < ps.length
 ·rw [List.getElem?_append_left hi] at e
  exact h i x e
 ·rw [List.getElem?_append_right (by omega)] at e
  by_cases h0:i - ps.length=0
  ·rw [h0] at e
   cases e
   have:i=ps.length:=by omega
   subst this
   exact ⟨ha,hb⟩
  ·rw [List.getElem?_eq_none (by simp; omega)] at e
   cases e
noncomputable def cG (ps:List (Str×Str)) (z:Str):Option Str:=(ps.find? fun p=>decide (p.1=z)).map (·.2)
inductive Over (f:Str→Option Str):Str→List Str→Prop
 | stop {z:Str}:f z=none→Over f z []
 | step {z y:Str} {r:List Str}:f z=some y→Over f y r→Over f z (z::r)
structure Ec (e B:Nat) (d:PyData):Prop where
 Ve:d.showable=true
 deep:d.depth≤e
 len:d.shown.length≤B
theorem Qx {i:Int} (h0:0≤i) (h1:i < 10 ^ 12):Ec 0 12 (.int i):=by
 refine ⟨?_,by simp [PyData.depth],?_⟩
 ·have:i.natAbs < 2 ^ 40:=by omega
  have h2:i.natAbs.log2 < 1920:=by
   by_cases h:i.natAbs=0
   ·rw [h]; decide
   ·have:=(Nat.log2_lt h).mpr this
    omega
  simpa [PyData.showable] using h2
 ·rw [PyData.shown_int]
  exact PyProof.Rows.toString_length_le h0 (by decide) h1
theorem fO {z:Str} (h:wB 8 z):Ec 0 82 (.str z):=by
 refine ⟨by simp [PyData.showable],by simp [PyData.depth],?_⟩
 rw [PyData.shown_str]
 refine Nat.le_trans (StrLaws.reprText_len z fun c hc=>Nat.lt_of_lt_of_le (h.1 c hc) (by decide)) ?_
 have:=h.2
 omega
theorem G8 {e B:Nat}:∀{ds:List PyData},(∀d∈ds,Ec e B d)→PyData.showableAll ds=true∧PyData.depthAll ds≤e∧((PyData.shownAll ds).map (·.length)).sum≤ds.length * B
 | [],_=>⟨by simp [PyData.showableAll],by simp [PyData.depthAll],by simp [PyData.shownAll]⟩
 | d::ds,h=>by
  obtain ⟨h1,h2,h3⟩:=G8 fun x hx=>h x (List.mem_cons_of_mem _ hx)
  have g:=h d List.mem_cons_self
  refine ⟨by simp [PyData.showableAll,g.Ve,h1],?_,?_⟩
  ·simp only [PyData.depthAll]
   have:=g.deep
   omega
  ·simp only [PyData.shownAll,List.map_cons,List.sum_cons,List.length_cons]
   have:=g.len
   rw [Nat.succ_mul]
   omega
theorem eF {e B C:Nat} {ds:List PyData} (h:∀d∈ds,Ec e B d) (hc:ds.length≤C):Ec (e + 1) (C * (B + 2) + 3) (.tuple ds):=by
 obtain ⟨h1,h2,h3⟩:=G8 h
 refine ⟨by simpa [PyData.showable] using h1,by simp [PyData.depth]; omega,?_⟩
 simp only [PyData.shown]
 have:=tupleText_len_le (PyData.shownAll ds)
 have hl:(PyData.shownAll ds).length=ds.length:=PyData.shownAll_length ds
 rw [hl] at this
 have hm:ds.length * B≤C * B:=Nat.mul_le_mul_right B hc
 rw [Nat.mul_add]
 omega
theorem Ec.mono {e e' B B':Nat} {d:PyData} (h:Ec e B d) (he:e≤e') (hB:B≤B'):Ec e' B' d:=⟨h.Ve,Nat.le_trans h.deep he,Nat.le_trans h.len hB⟩
noncomputable abbrev cY:=Int×Str×Int×Str×Int×Int
noncomputable abbrev nQ:=Int×Str×Str×Str×Int×Int×Int
noncomputable abbrev ni:=Int×Str
noncomputable abbrev cR:=Str×Int×List ni
noncomputable def bG (r:cY):PyData:=.tuple [.int r.1,.str r.2.1,.int r.2.2.1,.str r.2.2.2.1,.int r.2.2.2.2.1,.int r.2.2.2.2.2]
noncomputable def lO (r:nQ):PyData:=.tuple [.int r.1,.str r.2.1,.str r.2.2.1,.str r.2.2.2.1,.int r.2.2.2.2.1,.int r.2.2.2.2.2.1,.int r.2.2.2.2.2.2]
noncomputable def nj (s:ni):PyData:=.tuple [.int s.1,.str s.2]
noncomputable def di (ss:List ni):PyData:=.tuple (ss.map nj)
noncomputable def iJ (r:cR):PyData:=.tuple [.str r.1,.int r.2.1,di r.2.2]
noncomputable def bJ (p:Str×Str):PyData:=.tuple [.str p.1,.str p.2]
structure dj where
 ps:List (Str×Str)
 aU:List cY
 leaves:List nQ
 rules:List cR
noncomputable def bU (h:dj):PyData:=.tuple [.tuple (h.ps.map bJ),.tuple (h.aU.map bG),.tuple (h.leaves.map lO),.tuple (h.rules.map iJ)]
structure Ed (zs own:List Str) (r:cY):Prop where
 num:0≤r.1∧r.1≤2000
 who:r.2.1∈zs
 rank:1≤r.2.2.1∧r.2.2.1≤9
 part:r.2.2.2.1∈own
 days:0≤r.2.2.2.2.1∧r.2.2.2.2.1≤r.2.2.2.2.2∧r.2.2.2.2.2≤99999
structure zA (zs own:List Str) (r:nQ):Prop where
 num:0≤r.1∧r.1≤2000
 giver:r.2.1∈zs
 taker:r.2.2.1∈zs
 ne:r.2.1≠r.2.2.1
 part:r.2.2.2.1∈own
 days:0≤r.2.2.2.2.1∧r.2.2.2.2.1≤r.2.2.2.2.2.1∧r.2.2.2.2.2.1≤99999
 most:0≤r.2.2.2.2.2.2∧r.2.2.2.2.2.2≤1000000000
noncomputable def MJ (own:List Str) (s:ni):Prop:=1≤s.1∧s.1≤9∧(s.2=Str.ofString ""∨s.2∈own)
structure nR (own:List Str) (r:cR):Prop where
 part:r.1∈own
 sum:0≤r.2.1∧r.2.1≤1000000000
 many:r.2.2.length≤6
 Sg:∀s∈r.2.2,MJ own s
structure eG (zs:List Str) (ps:List (Str×Str)) (h:dj):Prop where
 parts:h.ps.Perm ps
 p8:ps.length≤8
 r20:h.aU.length≤20
 l16:h.leaves.length≤16
 X8:h.rules.length≤10
 aU:∀r∈h.aU,Ed zs (ps.map (·.1)) r
 rup:(h.aU.map (·.1)).Pairwise (· < ·)
 leaves:∀r∈h.leaves,zA zs (ps.map (·.1)) r
 lup:(h.leaves.map (·.1)).Pairwise (· < ·)
 rules:∀r∈h.rules,nR (ps.map (·.1)) r
 unlike:(h.rules.map fun r=>(r.1,r.2.1)).Nodup
theorem Sh:wB 8 (Str.ofString ""):=by
 have e:(Str.ofString "").cps.toList=[]:=by decide +kernel
 refine ⟨fun c hc=>?_,by decide +kernel⟩
 rw [e] at hc
 exact absurd hc (by simp)
theorem Jl {zs:List Str} {ps:List (Str×Str)} {h:dj} (hz:∀z∈zs,nameB z=true) (hp:bO zs ps) (g:eG zs ps h):Ec 5 200000 (bU h):=by
 have sz:∀z∈zs,wB 8 z:=fun z hm=>wB.name (hz z hm)
 have pz:∀x∈ps,wB 8 x.1∧wB 8 x.2:=fun x hx=>by
  obtain ⟨i,hi,rfl⟩:=List.getElem_of_mem hx
  obtain ⟨e1,e2⟩:=hp i ps[i] (List.getElem?_eq_getElem hi)
  refine ⟨sz _ (List.mem_of_getElem? e1),?_⟩
  rcases e2 with e2 | ⟨j,_,e2⟩
  ·rw [e2]
   exact Sh
  ·exact sz _ (List.mem_of_getElem? e2)
 have oz:∀z∈ps.map (·.1),wB 8 z:=fun z hm=>by
  obtain ⟨x,hx,rfl⟩:=List.mem_map.mp hm
  exact (pz x hx).1
 have int':∀{i:Int},0≤i→i < 10 ^ 12→Ec 0 82 (.int i):=fun a b=>(Qx a b).mono (Nat.le_refl _) (by decide)
 have s1:Ec 2 (8 * (171 + 2) + 3) (.tuple (h.ps.map bJ)):=by
  refine eF (e:=1) (B:=171) (fun d hd=>?_) (by rw [List.length_map,g.parts.length_eq]; exact g.p8)
  obtain ⟨x,hx,rfl⟩:=List.mem_map.mp hd
  have:=pz x (g.parts.mem_iff.mp hx)
  refine eF (e:=0) (B:=82) (C:=2) (fun d hd=>?_) (Nat.le_refl _)
  simp only [List.mem_cons,List.not_mem_nil,or_false] at hd
  rcases hd with rfl | rfl
  ·exact fO this.1
  ·exact fO this.2
 have s2:Ec 2 (20 * (507 + 2) + 3) (.tuple (h.aU.map bG)):=by
  refine eF (e:=1) (B:=507) (fun d hd=>?_) (by rw [List.length_map]; exact g.r20)
  obtain ⟨x,hx,rfl⟩:=List.mem_map.mp hd
  have k:=g.aU x hx
  refine eF (e:=0) (B:=82) (C:=6) (fun d hd=>?_) (Nat.le_refl _)
  have k1:=k.num
  have k3:=k.rank
  have k5:=k.days
  simp only [List.mem_cons,List.not_mem_nil,or_false] at hd
  rcases hd with rfl | rfl | rfl | rfl | rfl | rfl
  ·exact int' (by omega) (by omega)
  ·exact fO (sz _ k.who)
  ·exact int' (by omega) (by omega)
  ·exact fO (oz _ k.part)
  ·exact int' (by omega) (by omega)
  ·exact int' (by omega) (by omega)
 have s3:Ec 2 (16 * (591 + 2) + 3) (.tuple (h.leaves.map lO)):=by
  refine eF (e:=1) (B:=591) (fun d hd=>?_) (by rw [List.length_map]; exact g.l16)
  obtain ⟨x,hx,rfl⟩:=List.mem_map.mp hd
  have k:=g.leaves x hx
  refine eF (e:=0) (B:=82) (C:=7) (fun d hd=>?_) (Nat.le_refl _)
  have k1:=k.num
  have k3:=k.most
  have k5:=k.days
  simp only [List.mem_cons,List.not_mem_nil,or_false] at hd
  rcases hd with rfl | rfl | rfl | rfl | rfl | rfl | rfl
  ·exact int' (by omega) (by omega)
  ·exact fO (sz _ k.giver)
  ·exact fO (sz _ k.taker)
  ·exact fO (oz _ k.part)
  ·exact int' (by omega) (by omega)
  ·exact int' (by omega) (by omega)
  ·exact int' (by omega) (by omega)
 have s4:Ec 4 (10 * (3132 + 2) + 3) (.tuple (h.rules.map iJ)):=by
  refine eF (e:=3) (B:=3132) (fun d hd=>?_) (by rw [List.length_map]; exact g.X8)
  obtain ⟨x,hx,rfl⟩:=List.mem_map.mp hd
  have k:=g.rules x hx
  have k2:=k.sum
  have st:Ec 2 (6 * (171 + 2) + 3) (di x.2.2):=by
   refine eF (e:=1) (B:=171) (fun d hd=>?_) (by rw [List.length_map]; exact k.many)
   obtain ⟨y,hy,rfl⟩:=List.mem_map.mp hd
   obtain ⟨y1,y2,y3⟩:=k.Sg y hy
   refine eF (e:=0) (B:=82) (C:=2) (fun d hd=>?_) (Nat.le_refl _)
   simp only [List.mem_cons,List.not_mem_nil,or_false] at hd
   rcases hd with rfl | rfl
   ·exact int' (by omega) (by omega)
   ·rcases y3 with y3 | y3
    ·rw [y3]
     exact fO Sh
    ·exact fO (oz _ y3)
  refine (eF (e:=2) (B:=1041) (C:=3) (ds:=[.str x.1,.int x.2.1,di x.2.2]) (fun d hd=>?_) (Nat.le_refl _)).mono (by decide) (by decide)
  simp only [List.mem_cons,List.not_mem_nil,or_false] at hd
  rcases hd with rfl | rfl | rfl
  ·exact (fO (oz _ k.part)).mono (by decide) (by decide)
  ·exact (int' (by omega) (by omega)).mono (by decide) (by decide)
  ·exact st.mono (by decide) (by decide)
 refine (eF (e:=4) (B:=32000) (C:=4) (ds:=[.tuple (h.ps.map bJ),.tuple (h.aU.map bG),.tuple (h.leaves.map lO),.tuple (h.rules.map iJ)]) (fun d hd=>?_) (Nat.le_refl _)).mono (by decide) (by decide)
 simp only [List.mem_cons,List.not_mem_nil,or_false] at hd
 rcases hd with rfl | rfl | rfl | rfl
 ·exact s1.mono (by decide) (by decide)
 ·exact s2.mono (by decide) (by decide)
 ·exact s3.mono (by decide) (by decide)
 ·exact s4.mono (by decide) (by decide)
theorem u0 {z:Str} (h:nameB z=true):PyData.strOk z=true:=by
 unfold PyData.strOk
 rw [Array.all_eq_true']
 intro c hc
 have:=(uZ h).2.2 c (by simpa using hc)
 exact decide_eq_true (by omega)
theorem u5:∀{zs:List Str},(∀z∈zs,PyData.strOk z=true)→PyData.canLayAll0 (zs.map PyData.str)=true∧PyData.depthAll (zs.map PyData.str)=0∧gQ (zs.map PyData.str)=true
 | [],_=>⟨by simp [PyData.canLayAll0],by simp [PyData.depthAll],rfl⟩
 | z::zs,h=>by
  obtain ⟨h1,h2,h3⟩:=u5 fun x hx=>h x (List.mem_cons_of_mem _ hx)
  refine ⟨by simp [PyData.canLayAll0,PyData.canLay0,h z List.mem_cons_self]; simpa using h1,by simp only [List.map_cons,PyData.depthAll,PyData.depth,h2]; rfl,?_⟩
  show (true&&gQ (zs.map PyData.str))=true
  rw [h3]
  rfl
theorem BJ {zs:List Str} (h:∀z∈zs,PyData.strOk z=true):PySem.SeqAt.shaped (.list (zs.map PyData.str))=true:=by
 obtain ⟨h1,h2,_⟩:=u5 h
 unfold PySem.SeqAt.shaped
 simp only [PyData.canLay0,h1,PyData.depth,h2]
 decide
theorem Sq (a b:Int):∃lo hi:Int,cX [.list [.int a,.int b]]=some (.ow (.list [.int lo,.int hi]))∧lo≤hi∧(lo=a∨lo=b)∧(hi=a∨hi=b):=by
 by_cases h:b < a
 ·refine ⟨b,a,?_,by omega,.inr rfl,.inl rfl⟩
  have:eE ltI [a,b]=[b,a]:=by simp [eE,ins,ltI,h]
  simp [cX,gZ,uP,intsOf,this]
 ·refine ⟨a,b,?_,by omega,.inl rfl,.inr rfl⟩
  have:eE ltI [a,b]=[a,b]:=by simp [eE,ins,ltI,h]
  simp [cX,gZ,uP,intsOf,this]
theorem pL {α β:Type} {f:α→β}:∀{l:List α} {m:List β},m.Perm (l.map f)→∃l':List α,l'.Perm l∧m=l'.map f:=fun {l m} p=>by
 generalize e:l.map f=k at p
 induction p generalizing l with
 | nil=>
  cases l with
  | nil=>exact ⟨[],List.Perm.refl _,rfl⟩
  | cons _ _=>cases e
 | @cons x m k _ ih=>
  cases l with
  | nil=>cases e
  | cons a l=>
   rw [List.map_cons,List.cons.injEq] at e
   obtain ⟨l',p',rfl⟩:=ih e.2
   exact ⟨a::l',p'.cons a,by rw [List.map_cons,e.1]⟩
 | swap x y m=>
  cases l with
  | nil=>cases e
  | cons a l=>
   cases l with
   | nil=>cases e
   | cons b l=>
    rw [List.map_cons,List.map_cons,List.cons.injEq,List.cons.injEq] at e
    obtain ⟨e1,e2,e3⟩:=e
    exact ⟨b::a::l,List.Perm.swap a b l,by rw [List.map_cons,List.map_cons,e1,e2,e3]⟩
 | trans _ _ ih1 ih2=>
  obtain ⟨l2,p2,e2⟩:=ih2 e
  obtain ⟨l1,p1,e1⟩:=ih1 e2.symm
  exact ⟨l1,p1.trans p2,e1⟩
end L2
namespace L2
open PySem PySem.Spec PyProof.Rows PySem.W
theorem Ef (x:Str×Str) (ps:List (Str×Str)) (z:Str):cG (x::ps) z=if x.1=z then some x.2 else cG ps z:=by
 unfold cG
 rw [List.find?_cons]
 by_cases h:x.1=z
 ·rw [decide_eq_true h,if_pos h]
  rfl
 ·rw [decide_eq_false h,if_neg h]
theorem cj:∀{ps:List (Str×Str)} {z w:Str},(ps.map (·.1)).Nodup→(cG ps z=some w ↔ (z,w)∈ps)
 | [],z,w,_=>by simp [cG]
 | x::ps,z,w,h=>by
  rw [List.map_cons,List.nodup_cons] at h
  rw [Ef]
  by_cases hz:x.1=z
  ·rw [if_pos hz,List.mem_cons]
   constructor
   ·intro e
    left
    rw [←hz,←Option.some.inj e]
   ·rintro (e | e)
    ·rw [←e]
    ·exact absurd (List.mem_map.mpr ⟨(z,w),e,hz.symm⟩) h.1
  ·rw [if_neg hz,cj h.2,List.mem_cons]
   constructor
   ·exact .inr
   ·rintro (e | e)
    ·exact absurd (by rw [←e]) hz
    ·exact e
theorem Eg {ps ps':List (Str×Str)} (p:ps'.Perm ps) (h:(ps.map (·.1)).Nodup) (z:Str):cG ps' z=cG ps z:=by
 have h':(ps'.map (·.1)).Nodup:=(p.map (·.1)).nodup_iff.mpr h
 cases e:cG ps z with
 | some w=>exact (cj h').mpr (p.mem_iff.mpr ((cj h).mp e))
 | none=>
  cases e':cG ps' z with
  | none=>rfl
  | some w=>
   have:=(cj h).mpr (p.mem_iff.mp ((cj h').mp e'))
   rw [e] at this
   cases this
theorem vd {zs:List Str} {ps:List (Str×Str)} (h:bO zs ps):ps.map (·.1)=zs.take ps.length:=by
 apply List.ext_getElem?
 intro i
 rw [List.getElem?_map,List.getElem?_take]
 cases e:ps[i]? with
 | none=>
  rw [if_neg (by have:=List.getElem?_eq_none_iff.mp e; omega)]
  rfl
 | some x=>
  rw [if_pos (List.getElem?_eq_some_iff.mp e).1,(h i x e).1]
  rfl
theorem d7 {zs:List Str} {ps:List (Str×Str)} (hN:Names zs) (h:bO zs ps):(ps.map (·.1)).Nodup:=by
 rw [vd h]
 exact hN.1.sublist (List.take_sublist _ _)
theorem pM:nameB (Str.ofString "")=false:=by decide +kernel
theorem vf {zs:List Str} {ps:List (Str×Str)} (hN:Names zs) (h:bO zs ps) {z:Str} (hz:z∈ps.map (·.1)):nameB z=true:=by
 rw [vd h] at hz
 exact hN.2 z (List.mem_of_mem_take hz)
theorem nU {zs:List Str} {ps:List (Str×Str)} (hN:Names zs) (h:bO zs ps):cG ps (Str.ofString "")=none:=by
 cases e:cG ps (Str.ofString "") with
 | none=>rfl
 | some w=>
  have:=(cj (d7 hN h)).mp e
  have:=vf hN h (List.mem_map.mpr ⟨_,this,rfl⟩)
  rw [pM] at this
  cases this
noncomputable def Qy (f:Str→Option Str):Nat→Str→List Str
 | 0,_=>[]
 | n + 1,z=>match f z with
  | none=>[]
  | some y=>z::Qy f n y
noncomputable def up (ps:List (Str×Str)) (z:Str):List Str:=Qy (cG ps) (ps.length + 1) z
theorem pN {f:Str→Option Str} {z:Str} (h:f z=none):∀n,Qy f n z=[]
 | 0=>rfl
 | n + 1=>by unfold Qy; rw [h]
theorem BK {f:Str→Option Str} {z y:Str} (h:f z=some y) (n:Nat):Qy f (n + 1) z=z::Qy f n y:=by
 rw [Qy,h]
theorem G9 {f:Str→Option Str}:∀n z,(Qy f n z).length≤n
 | 0,_=>Nat.le_refl 0
 | n + 1,z=>by
  cases h:f z with
  | none=>rw [pN h]; exact Nat.zero_le _
  | some y=>
   rw [BK h,List.length_cons]
   exact Nat.succ_le_succ (G9 n y)
theorem Hf {zs:List Str} {ps:List (Str×Str)} (hN:Names zs) (hP:bO zs ps):∀(n i:Nat),i < n→∀x,ps[i]?=some x→Over (cG ps) x.1 (Qy (cG ps) n x.1)
 | 0,_,h,_,_=>absurd h (Nat.not_lt_zero _)
 | n + 1,i,h,x,hx=>by
  have e:cG ps x.1=some x.2:=(cj (d7 hN hP)).mpr (List.mem_of_getElem? hx)
  rw [BK e]
  refine .step e ?_
  rcases (hP i x hx).2 with h2 | ⟨j,hj,h2⟩
  ·rw [h2,pN (nU hN hP)]
   exact .stop (nU hN hP)
  ·have hi:=(List.getElem?_eq_some_iff.mp hx).1
   have hjl:j < ps.length:=by omega
   have g:=hP j ps[j] (List.getElem?_eq_getElem hjl)
   have e2:ps[j].1=x.2:=by
    have:=g.1
    rw [h2] at this
    exact (Option.some.inj this).symm
   rw [←e2]
   exact Hf hN hP n j (by omega) ps[j] (List.getElem?_eq_getElem hjl)
theorem zB {zs:List Str} {ps:List (Str×Str)} (hN:Names zs) (hP:bO zs ps) (z:Str):Over (cG ps) z (up ps z):=by
 unfold up
 cases e:cG ps z with
 | none=>
  rw [pN e]
  exact .stop e
 | some w=>
  obtain ⟨i,hi,hx⟩:=List.getElem_of_mem ((cj (d7 hN hP)).mp e)
  have:=Hf hN hP (ps.length + 1) i (by omega) _ (List.getElem?_eq_getElem hi)
  rw [hx] at this
  exact this
theorem Over.det {f:Str→Option Str}:∀{z:Str} {a b:List Str},Over f z a→Over f z b→a=b
 | _,_,_,.stop _,.stop _=>rfl
 | _,_,_,.stop h,.step g _=>by rw [h] at g; cases g
 | _,_,_,.step h _,.stop g=>by rw [h] at g; cases g
 | _,_,_,.step h r,.step g s=>by
  rw [h] at g
  cases g
  rw [Over.det r s]
theorem Qz {zs:List Str} {ps:List (Str×Str)} (hN:Names zs) (hP:bO zs ps) {z w:Str} (h:cG ps z=some w):up ps z=z::up ps w:=(zB hN hP z).det (.step h (zB hN hP w))
theorem Hg {ps:List (Str×Str)} {z:Str} (h:cG ps z=none):up ps z=[]:=pN h _
theorem MK (ps:List (Str×Str)) (z:Str):(up ps z).length≤ps.length + 1:=G9 _ _
noncomputable def fP (l:List (Str×PyData)):List (PyData×PyData):=l.map fun p=>(.str p.1,p.2)
theorem vg:∀l:List (Str×PyData),cz cZ (fP l)=some (l.map fun p=>.inr p.1)
 | []=>rfl
 | p::l=>by
  rw [show fP (p::l)=(.str p.1,p.2)::fP l from rfl]
  unfold cz
  rw [vg l]
  simp only [cZ]
  rfl
theorem zE (x z:Str):(cZ (.str x)=some (.inr z)) ↔ x=z:=by
 simp [cZ]
theorem xO (z:Str):∀l:List (Str×PyData),gR cZ (.inr z) (fP l)=(l.find? fun p=>decide (p.1=z)).map (·.2)
 | []=>rfl
 | p::l=>by
  show (if cZ (.str p.1)=some (.inr z) then some p.2 else gR cZ (.inr z) (fP l))=_
  rw [List.find?_cons]
  by_cases h:p.1=z
  ·rw [if_pos ((zE _ _).mpr h),decide_eq_true h]
   rfl
  ·rw [if_neg (fun e=>h ((zE _ _).mp e)),decide_eq_false h,xO z l]
theorem qQ (l:List (Str×PyData)) (z:Str):iG (fP l) (.str z)=some ((l.find? fun p=>decide (p.1=z)).map (·.2)):=by
 show (if (cz cZ (fP l)).isSome then some (gR cZ (.inr z) (fP l)) else none)=_
 rw [vg,xO]
 rfl
theorem BL {l:List (Str×PyData)} {z:Str} {d:PyData} (h:z∉l.map (·.1)):jG cZ (.inr z) (.str z) d (fP l)=fP (l++[(z,d)]):=by
 unfold jG
 rw [if_neg,fP,fP,List.map_append]
 ·rfl
 ·rw [Bool.not_eq_true,List.any_eq_false]
  intro p hp
  obtain ⟨q,hq,rfl⟩:=List.mem_map.mp hp
  have:¬(cZ (.str q.1)=some (.inr z)):=fun e=>h (List.mem_map.mpr ⟨q,hq,(zE _ _).mp e⟩)
  simpa using this
theorem MN {l:List (Str×PyData)} {z:Str} {d:PyData} (h:z∉l.map (·.1)):putD (fP l) (.str z) d=some (fP (l++[(z,d)])):=by
 show (if (cz cZ (fP l)).isSome then some (jG cZ (.inr z) (.str z) d (fP l)) else none)=_
 rw [vg,BL h]
 rfl
theorem vh {α:Type} (ps:List (Str×Str)) (g:Str×Str→α) (z:Str):((ps.map fun p=>(p.1,g p)).find? fun p=>decide (p.1=z)).map (·.2)=(ps.find? fun p=>decide (p.1=z)).map g:=by
 rw [List.find?_map,Option.map_map]
 rfl
theorem cV {α:Type} {T:mW} {ft:FT} {fe:FE} {fs:En} {C:Ce} (D:α→PyData) (p:α→Bool) (g:α→PyData):∀{l:List α},(∀a∈l,∃ts,RV T (D a)=some ts∧ft (jm ts++fs) C=some (p a,C)∧(p a=true→∃x e,fe (jm ts++fs) C=some (x,e,C)∧still x=.im (g a)))→
  cQ T ft fe fs (l.map D) C=some ((l.filter p).map g,C)
 | [],_=>rfl
 | d::r,h=>by
  obtain ⟨ts,h1,h2,h3⟩:=h d List.mem_cons_self
  have ih:=cV D p g (l:=r) fun d m=>h d (List.mem_cons_of_mem _ m)
  rw [List.map_cons]
  unfold cQ
  simp only [h1]
  rw [h2]
  cases hp:p d with
  | true=>
   obtain ⟨x,e,h4,h5⟩:=h3 hp
   simp only [h4,h5,ih,List.filter_cons,hp,if_true,List.map_cons]
  | false=>
   simp only [ih,List.filter_cons,hp]
   rfl
theorem pO {l:List Int}:∀{a b:Int},l.foldl max a≤b ↔ a≤b∧∀x∈l,x≤b:=by
 induction l with
 | nil=>intro a b; simp
 | cons y l ih=>
  intro a b
  rw [List.foldl_cons,ih]
  constructor
  ·rintro ⟨h1,h2⟩
   refine ⟨by omega,fun x hx=>?_⟩
   rcases List.mem_cons.mp hx with rfl | hx
   ·omega
   ·exact h2 x hx
  ·rintro ⟨h1,h2⟩
   have:=h2 y List.mem_cons_self
   exact ⟨by omega,fun x hx=>h2 x (List.mem_cons_of_mem _ hx)⟩
theorem Jm {l:List Int} (h:∀x∈l,0≤x):maxD 0 l=l.foldl max 0:=by
 cases l with
 | nil=>rfl
 | cons x l=>
  show l.foldl max x=l.foldl max (max 0 x)
  have:=h x List.mem_cons_self
  rw [show max 0 x=x by omega]
noncomputable def rP (who:Str) (os:List Str) (day:Int) (r:cY):Bool:=decide (r.2.1=who)&&(decide (r.2.2.2.1∈os)&&(decide (r.2.2.2.2.1≤day)&&decide (day≤r.2.2.2.2.2)))
noncomputable def tM (rk:List cY) (who:Str) (os:List Str) (day:Int):Int:=((rk.filter (rP who os day)).map (·.2.2.1)).foldl max 0
end L2
namespace L2
open PySem PySem.Spec PyProof.Rows PySem.W
section
variable {prog:Program} {w:World} {A:Around} {E:Value→Shared→Prop} {R:Result→Shared→Prop} {s:Shared}
theorem Jo {Q:Value→Shared→Prop} (h:Q (.ref s.heap.objs.size) { s with heap:=s.heap.push (je w) }):wpAny (model prog w) A (newSet (.type "set")) Q E s:=by
 unfold newSet setsByText
 obtain ⟨h0,g0,d0,t0,o0⟩:=s
 refine wpAny_bind (wpAny_bind (wpAny_askSetting (wpAny_pure ?_)))
 dsimp only
 simp only [newObj]
 exact wpAny_bind (wpAny_alloc (wpAny_pure h))
theorem Jp {elt target iter:Expr} {ifs:List Expr} {rest:List Comprehension} {scope:Scope} {pos:Pos} {it acc:Value} {env:Env} (h0:codeAny (model prog w) A (.compLoop (.SetComp elt (⟨target,iter,ifs,0⟩::rest) scope pos) 0 it acc env) R s)
  (h:wpAny (model prog w) A (pyIter it) (fun it' s'=>codeAny (model prog w) A (.compLoop (.SetComp elt (⟨target,iter,ifs,0⟩::rest) scope pos) 0 it' acc env) R s') (notedBy (model prog w) A env fun x s'=>R (.error x) s') s):
  codeAny (model prog w) A (.compStart (.SetComp elt (⟨target,iter,ifs,0⟩::rest) scope pos) 0 it acc env) R s:=by
 refine codeAny_of_tree (show wpAny _ A ((compStart (.SetComp elt (⟨target,iter,ifs,0⟩::rest) scope pos) 0 it acc env).onRaise (fun x=>do noteFrame x env; standAt theWindowsPlace)) _ _ s from wpAny_notedAt ?_)
 unfold compStart
 refine (show wpAny _ A (ask >>= _) _ _ s from wpAny_bind (wpAny_askSetting (wpAny_ite ?_)))
 split
 ·first
   | exact wpAny_bind (wpAny_pure (wpAny_pure ⟨rfl,h0⟩))
   | exact wpAny_pure ⟨rfl,h0⟩
 ·first
   | exact wpAny_bind (wpAny_rule (wpAny_bind (wpAny_standAt (wpAny_bind (wpAny_mono h (fun it' s' h'=>wpAny_pure ⟨rfl,h'⟩) fun _ _ x=>x)))))
   | exact wpAny_bind (wpAny_rule (show wpAny _ _ (standAt iter.pos >>= _) _ _ s from wpAny_bind (wpAny_standAt (wpAny_bind (wpAny_mono h (fun it' s' h'=>wpAny_pure ⟨rfl,h'⟩) fun _ _ x=>x)))))
variable {T:Type} [DecidableEq T] {knd:PySem.KeyKind prog w T}
theorem BP {a:Addr} {k:T} {key:Value} {ks:List T} {Q:Value→Shared→Prop} (hk:knd.is k key=true) (hsc:key.scannable=true) (hS:iw knd s.heap a ks) (room:ks.length + 1 < scanBound)
  (h:∀h',Heap.SameBut a s.heap h'→iw knd h' a (jC ks k)→Q .none { s with heap:=h',toks:=s.toks + 1 }):wpAny (model prog w) A (call (.builtin "set.add") [.ref a,key]) Q E s:=by
 refine wpAny_call_entry F.slot_set_add hS.ty F.entry_set_add ?_ (F.args_set_add_2 _ _)
 unfold Builtin.«set.add» Builtin.Frozenset.oneOther
 simp only [List.isEmpty_nil,bind_assoc]
 unfold Builtin.Frozenset.addrOf setAdd
 refine wpAny_bind (wpAny_pure ?_)
 try dsimp only
 refine wpAny_bind (wpAny_pure ?_)
 try dsimp only
 refine wpAny_bind (wpAny_holding (wpAny_bind (knd.pyHash hk ?_)))
 refine Gb (knd:=knd) (s:={ s with toks:=s.toks + 1 }) hk hsc hS room fun _ h' hsb hS'=>?_
 exact (show wpAny _ _ (ret Value.none) _ _ _ from wpAny_pure ⟨_,rfl,h h' hsb hS'⟩)
end
theorem zF {env:Env} (elt gens scope pos):eval (.SetComp elt gens scope pos) env=comprehension (.SetComp elt gens scope pos) scope env (firstIterPos gens pos) (newSet (.type "set")) (firstAsync gens) (firstIter gens env):=rfl
section
variable {P:Program} {w:World} {T0:Type} [DecidableEq T0] (knd:PySem.KeyKind P w T0) (mk:T0→V)
noncomputable abbrev SO (a:Addr) (ks:List T0):HO:=.ext fun h=>iw knd h a ks
noncomputable def MP (D:Addr) (te:TE):TM:=fun σ H Q=>te σ H fun y H1=>∃ks k,H1 D=some (SO knd D ks)∧y=mk k∧ks.length + 1 < scanBound∧Q (upd H1 D (SO knd D (jC ks k)))
theorem Ss {H:Hp} {h:Heap} {a:Addr} {ks:List T0} (x:iw knd h a ks):bV P w H h a (SO knd a ks):=
 ⟨x,let ⟨o,_,_,_,e,_⟩:=x; ⟨o,e⟩,fun _ _ y e=>y.at e⟩
noncomputable def tSC (K:PySem.W.Frag) (wi:TI) (T:mW) (ts:Bk→TT) (te:Bk→TE) (js:List Nat):TE:=fun σ H Q=>wi σ H fun J H1=>∀D,H1 D=none→∀b,Dg K T (ts b) (MP knd mk D (te b)) (frees js σ) J (upd H1 D (SO knd D [])) (Q (.ref D))
end
section
variable {X:Cx} {T0:Type} [DecidableEq T0] {knd:PySem.KeyKind X.prog X.w T0} {mk:T0→V} {NT NF:List Str} {js:List Nat} {elt tg iter:Expr} {ifs:List Expr} {T:mW} {wi:TI} {ts:Bk→TT} {te:Bk→TE} {scope:Scope} {pos:Pos}
theorem Vf {D:Addr} {t:TE} (hk:∀k v,RelV (mk k) v→knd.is k v=true∧v.scannable=true) (he:PE X elt t):PM X (do let v ←eval elt X.env; standAt elt.pos; let _ ←call (.builtin "set.add") [.ref D,v]) (MP knd mk D t):=by
 intro pins s σ H Q I h
 refine wpAny_bind (cF (he pins s σ H _ I h) fun v s1 aR=>?_)
 obtain ⟨y,H1,I1,r1,ks,k,hD,ey,hz,q⟩:=aR
 subst ey
 obtain ⟨hS,_,_⟩:=I1.hok D _ hD
 obtain ⟨k1,k2⟩:=hk _ _ r1
 refine wpAny_bind (wpAny_standAt (wpAny_bind (BP k1 k2 hS hz fun h' same hS'=>?_)))
 refine wpAny_pure ⟨_,?_,q⟩
 exact mD I1 (by rw [hD]; exact True.intro) same (let ⟨o,_,_,_,e,_⟩:=hS'; ⟨o,e⟩) (Ss knd hS')
theorem Vg {pins:List (Addr×Obj)} {σ:St} {s2:Shared} {H2:Hp} {cl:List (Str×Addr)} {it:Addr} {fp:List Addr} {tn:Nat→Heap→Prop} {J:It} {Q:Hp→Prop} {RR:Value→Addr→Result→Shared→Prop} {E:Value→Shared→Prop}
  (hk:∀k v,RelV (mk k) v→knd.is k v=true∧v.scannable=true) (B:jt X NT NF js scope) (tk:oU tg NT T) (hc:X.calm=true)
  (hin:∀b,Ck (X.bk (NT++NF) scope b) ifs (ts b)∧PE (X.bk (NT++NF) scope b) elt (te b))
  (q2:∀n c,cl.lookup n=some c→X.env.cells.lookup n=some c) (q3:∀y∈scope.names,y.2=.free→∃c,cl.lookup y.1=some c)
  (I2:Inv X pins σ H2 s2) (TT:Turn X.prog X.w X.K tg J fp it tn) (st2:tn 0 s2.heap) (f2:∀b∈fp,iu X pins H2 b)
  (q:∀b,Dg X.K T (ts b) (MP knd mk s2.heap.objs.size (te b)) (frees js σ) J (upd H2 s2.heap.objs.size (SO knd s2.heap.objs.size [])) Q)
  (hR:∀C H' s' m,Inv X pins σ H' s'→iu X pins H' C→s'.heap.Ns C m→Q H'→RR (.ref s2.heap.objs.size) C (.ok .next) s'):
  wpAny (model X.prog X.w) X.A (newSet (.type "set")) (fun acc s₃=>wpAny (model X.prog X.w) X.A (newFunctionEnv scope X.env.globals cl [] X.env.qual none .none (some X.env)) (fun cenv s₄=>
   codeAny (model X.prog X.w) X.A (.compStart (.SetComp elt [⟨tg,iter,ifs,0⟩] scope pos) 0 (.ref it) acc { cenv with scope:=relabel scope X.env }) (RR acc cenv.locals) s₄) E s₃) E s2:=by
 refine Jo ?_
 have hD:H2 s2.heap.objs.size=none:=I2.hok.fresh (Nat.le_refl _)
 have I3:Inv X pins σ (upd H2 s2.heap.objs.size (SO knd s2.heap.objs.size [])) { s2 with heap:=s2.heap.push (je X.w) }:=
  I2.laid (t':=s2.toks) (fun b o e=>Heap.get?_push_of_some _ e) (Nat.le_refl _) (Ss knd (K1 (Heap.get?_push_size _ rfl)))
 have hsz:(s2.heap.push (je X.w)).objs.size=s2.heap.objs.size + 1:=Heap.size_push ..
 refine wpAny_newFunctionEnv B.cell (by intro y hy; simp at hy) (fun h₁ hns₁ hsb₁=>?_) B.kind
 have NP:∀b∈fp,b < s2.heap.objs.size:=fun b hb=>by
  obtain ⟨o,e,_⟩:=TT.obj 0 _ st2 b hb
  exact Heap.lt_size e
 have f3:∀b∈fp,iu X pins (upd H2 s2.heap.objs.size (SO knd s2.heap.objs.size [])) b:=fun b hb=>⟨by rw [aO (Nat.ne_of_lt (NP b hb))]; exact (f2 b hb).1,(f2 b hb).2⟩
 have keep:∀b o,(s2.heap.push (je X.w)).get? b=some o→h₁.get? b=some o:=fun b o e=>hsb₁.extBut b o (Nat.ne_of_lt (Heap.lt_size e)) (Heap.get?_push_of_some _ e)
 have Rx:∀b∈fp,b < (s2.heap.push (je X.w)).objs.size:=fun b hb=>by have:=NP b hb; rw [hsz]; exact Nat.lt_succ_of_lt this
 have I4:=I3.blk (s1:={ s2 with heap:=h₁,toks:=s2.toks + ([]:List (Str×Value)).length }) B q2 q3 f3 Rx hns₁ keep rfl I2.bare
 have Ry:tn 0 h₁:=TT.keep 0 _ _ st2 fun b _ o e=>keep b o (Heap.get?_push_of_some _ e)
 obtain ⟨i1,i2⟩:=hin ⟨cl,(s2.heap.push (je X.w)).objs.size,{ s2 with heap:=s2.heap.push (je X.w) },upd H2 s2.heap.objs.size (SO knd s2.heap.objs.size []),fp⟩
 have loop:codeAny (model X.prog X.w) X.A (.compLoop (.SetComp elt [⟨tg,iter,ifs,0⟩] scope pos) 0 (.ref it) (.ref s2.heap.objs.size) (compEnvC scope cl (s2.heap.push (je X.w)).objs.size X.env))
   (RR (.ref s2.heap.objs.size) (s2.heap.push (je X.w)).objs.size) { s2 with heap:=h₁,toks:=s2.toks + ([]:List (Str×Value)).length }:=by
  refine ug (X:=X.blk (NT++NF) scope cl (s2.heap.push (je X.w)).objs.size { s2 with heap:=s2.heap.push (je X.w) } (upd H2 s2.heap.objs.size (SO knd s2.heap.objs.size [])) fp)
   (T:=T) (fs:=frees js σ) (done:=Q) rfl (Ig elt tg iter ifs scope pos _ _ _) rfl rfl rfl tk rfl B.nd hc (fun x hx=>lookup_relabel_local (B.tg x hx)) i1 (Vf (X:=X.bk (NT++NF) scope _) (knd:=knd) hk i2) TT (fun b hb=>?_) I4 Ry (q _) fun H' s' σ' J' qd=>?_
  ·exact ⟨(f3 b hb).1,Nat.ne_of_lt (Rx b hb),fun hb2=>by
    rcases List.mem_cons.mp (I3.qg b hb2) with z | z
    ·exact (f3 b hb).2.1 z
    ·exact (f3 b hb).2.2.1 z,.inl hb,fun x c e=>(f3 b hb).2.2.2.2.1 x c (q2 x c e),fun p hp=>(nomatch (show p∈([]:List (Addr×Obj)) from hp))⟩
  ·obtain ⟨m,hn,_⟩:=J'.loc
   exact hR _ H' s' m (I3.Km f3 J') (I3.yr (Nat.le_refl _) J'.free) hn qd
 exact Jp loop (TT.self _ 0 _ _ _ Ry loop)
theorem Xe (hk:∀k v,RelV (mk k) v→knd.is k v=true∧v.scannable=true) (B:jt X NT NF js scope) (tk:oU tg NT T) (hc:X.calm=true) (hi:PI X tg iter wi)
  (hin:∀b,Ck (X.bk (NT++NF) scope b) ifs (ts b)∧PE (X.bk (NT++NF) scope b) elt (te b))
  (hs:∀x,foldedSetIterable iter X.env x=pure x:=by intro _; rfl):PE X (.SetComp elt [⟨tg,iter,ifs,0⟩] scope pos) (tSC knd mk X.K wi T ts te js):=by
 intro pins s σ H Q I h
 obtain ⟨cl,hclos,q2,q3⟩:=jB (env:=X.env) (scope:=scope) fun y hy e=>I.ok.has y.1 (B.free y hy e)
 rw [zF]
 refine wpAny_comprehension_free (use:=none) rfl hs hclos B.kind B.names (cF (hi pins s σ H _ I h) fun v s1 h1=>cF h1 fun itv s2 aR=>?_)
 obtain ⟨it,fp,tn,J,H2,e,I2,TT,st2,f2,q⟩:=aR
 subst e
 refine Vg (Q:=fun H'=>Q (.ref s2.heap.objs.size) H') (RR:=fun acc C=>compPost (model X.prog X.w) X.A X.xe none (EP X pins σ Q) acc C) hk B tk hc hin q2 q3 I2 TT st2 f2 (q _ (I2.hok.fresh (Nat.le_refl _))) fun C H' s' m I' fC hn qd=>?_
 refine ⟨m,hn,fun h' sb=>⟨.ref s2.heap.objs.size,H',?_,rfl,qd⟩⟩
 exact I'.turned (t':=s'.toks) (fun b o hb e=>(sb.2 b hb).trans e) fC.1 fC.2.1 fC.2.2.2.1 fC.2.2.2.2.1 fC.2.2.2.2.2
end
noncomputable def MT {P:Program} {w:World} (t:TE):TE:=fun σ H Q=>t σ H fun x H2=>∃D ks,x=.ref D∧H2 D=some (SO (PySem.strKind P w) D ks)∧ks.length < 64∧∀(D':Addr) (ns':List Str),H2 D'=none→ns'.Perm ks→sortedS ns'=true→Q (.ref D') (upd H2 D' (.lst (ns'.map V.str)))
theorem M3 {X:Cx} {e:Expr} {t:TE} {p1 pos1:Pos} (hc:X.calm=true) (hl:PE X e t) (g1:Gl X "sorted") (m1:X.mg "sorted"=none)
  (he:starEach [e] X.env=(false,eval e X.env)::starEach [] X.env:=by rfl) (hpl:(backTo pos1 (starEach [] X.env)).any (·.1)=false:=by rfl):PE X (.Call (.Name "sorted" p1) [e] [] pos1) (MT (P:=X.prog) (w:=X.w) t):=by
 intro pins s σ H Q I h
 refine wpAny_Call_Name_kw (gP I g1 m1 (u:=.builtin "sorted") rfl (PyProof.Rows.callWith_builtin1 ?_ he hpl))
 rw [he]
 show wpAny _ _ (spliced ((false,eval e X.env)::backTo pos1 (starEach [] X.env))) _ _ s
 refine Calls.spliced_cons (cF (hl pins s σ H _ I h) fun v s1 ⟨y,H1,I1,r1,D,ks,ey,hD,h64,q⟩=>Calls.spliced_nil ?_)
 subst ey
 cases r1
 obtain ⟨⟨o,es,ep,t,ho,ex,hd,⟨ks',ek,pk⟩,hb,hf,tb⟩,_,_⟩:=I1.hok D _ hD
 obtain ⟨e1,e2⟩:=Ao ek
 have few:es.size < 64:=by
  rw [←Array.length_toList,ek.len,pk.length_eq]
  omega
 refine nF (Ok:=fun out=>∃ns',StrsAre out ns'∧ns'.Perm ks∧sortedS ns'=true) (I1.ok.hd hc) ⟨o,ho,ex,hd,hf,tb⟩ few (fun us pm B s2 a n P E' ho' hp=>?_) fun D h' d tk c out ok ge kk gD=>?_
 ·have hS:StrsAre us (us.map strOf):=strsAre_map us fun v hv=>e2 v (pm.mem_iff.mp hv)
  refine list_sort_treeK strKind_oneLt ho' hS.keysOf (fun v1 v2 rest e=>keyKind_strs (by rw [←e]; exact hS)) (by rw [pm.length_eq,List.length_map,Array.length_toList]; exact few) fun st hp1 hp2=>?_
  obtain ⟨ss',b1,b2,b3⟩:=sorted_out_str hS hp1 hp2
  exact hp _ ⟨ss',b1,b2.trans ((pm.map strOf).trans (by rw [e1]; exact pk)),b3⟩
 ·obtain ⟨ns',a1,a2,a3⟩:=ok
  have hz:ns'.length≤sizeLine:=by
   rw [a2.length_eq,sizeLine_eq]
   omega
  exact ⟨.ref D,_,(I1.laid (o:=.lst (ns'.map V.str)) (t':=tk) kk ge ⟨by rw [List.length_map]; exact hz,out.toList,c,mG a1,by simpa [seqObj] using gD⟩).drew d,rfl,q D ns' (I1.hok.fresh ge) a2 a3⟩
end L2
namespace L2
open PySem PySem.Spec PyProof.Rows PySem.W
noncomputable def Xf (fi:FI) (T:mW) (ft:FT) (fe:FE) (js:List Nat):FE:=fun env C=>match fi env C with
 | some (its,e1,C1)=>match cQ T ft fe (frB js e1) its C1 with
  | some (ys,C2)=>match fZ ys with
   | some l=>some (.ow (.list l),env,C2)
   | none=>none
  | none=>none
 | none=>none
theorem QB {P:Program} {w:World} {K:PySem.W.Frag} {fi:FI} {T:mW} {ft:FT} {fe:FE} {js:List Nat}:∀σ H Q,tE K (Xf fi T ft fe js) σ H Q→MT (P:=P) (w:=w) (tSC (PySem.strKind P w) V.str K (tI K true fi) T (fun _=>kh K ft) (fun _=>tE K fe) js) σ H Q:=by
 rintro σ H Q ⟨Z,Θ,env,C,res,env',C',S,hf,q⟩
 unfold Xf at hf
 split at hf
 case h_2=>cases hf
 rename_i its e1 C1 h1
 split at hf
 case h_2=>cases hf
 rename_i ys C2 h2
 split at hf
 case h_2=>cases hf
 rename_i l hs
 cases hf
 unfold fZ at hs
 split at hs
 case isFalse=>cases hs
 rename_i hl
 split at hs
 case h_2=>cases hs
 rename_i ns hns
 cases hs
 have hys:=pI hns
 subst hys
 rw [List.length_map] at hl
 refine ⟨Z,Θ,env,C,its,e1,C1,S,h1,fun J H1 k1 f1 S1 it D hD b=>?_⟩
 have N5:=S1.fz (lK js e1)
 have it':wu (aL Z Θ e1 σ) Θ H1 J its:=it
 let PB:=aL (jJ D Z (mO js e1) σ) Θ [] []
 have Bj:∀a,a∈PB ↔ a=D∨a∈aL Z Θ (mO js e1) σ:=fun a=>dR (js:=js) rfl
 refine ⟨fun i m H2=>m=its.length - i∧i≤its.length∧∃(acc rest:List Str) (C2:Ce),bK Θ H1 H2∧dW Θ C2 H2∧H2 D=some (SO (PySem.strKind P w) D (dedup acc))∧cQ T ft fe (frB js e1) (its.drop i) C2=some (rest.map .str,C')∧acc++rest=ns,
  ⟨its.length,rfl,Nat.zero_le _,[],ns,C1,bK.upd hD,⟨S1.cell.len,fun n b ns e2 e3=>?_⟩,aK,h2,rfl⟩,?_⟩
 ·have:=S1.cell.at_ n b ns e2 e3
  rw [aO (bC this hD)]
  exact this
 rintro i m H2 ⟨rfl,hi,acc,rest,Ci,ki,ci,hDi,hc,ea⟩
 have W5:aV (er (aL Z Θ e1 σ) H1) (er PB H2):=dZ ki S1.Gi fun b m=>by
  rcases (Bj b).mp m with rfl | m
  ·exact .inr hD
  ·exact .inl ((lK js e1).sub b m)
 have W6:Sm K (jJ D Z (mO js e1) σ) Θ (jm []++frB js e1) Ci (([]:List V).map some++frees js σ) H2:=N5.blk hD ki ⟨_,hDi,fun _ z=>nomatch z⟩ ci (show dJ _ [] [] from rfl)
 have Mf:∀a∈PB,H2 a≠none:=fun a m=>by
  have:=W6.yO a ((dR (js:=js) (jH (env:=jm []++frB js e1) nM)).mpr ((Bj a).mp m))
  exact this
 obtain ⟨U3,U4⟩:=it' i H2 PB W5 (yP ki) Mf
 have few:acc.length + rest.length < 64:=by
  rw [←List.length_append,ea]
  exact hl
 have acd:=dY acc
 cases hd:its[i]? with
 | none=>
  have hi2:i=its.length:=by
   have:=List.getElem?_eq_none_iff.mp hd
   omega
  rw [hi2,List.drop_length] at hc
  have hr:rest=[]:=by
   cases rest with
   | nil=>rfl
   | cons x r=>cases hc
  subst hr
  cases hc
  rw [List.append_nil] at ea
  subst ea
  refine .inl ⟨U4 hi2,D,dedup acc,rfl,hDi,by omega,fun D' ns' hn p hp=>?_⟩
  have kk:=k1.trans ki
  rw [DY p hp]
  exact q _ _ (kk.trans (bK.upd hn)) (Fz.refl _) ((dO (S.go kk ci) (uC _) hn).from kk)
 | some d=>
  have hlt:i < its.length:=(List.getElem?_eq_some_iff.mp hd).1
  have ed:its.drop i=d::its.drop (i + 1):=by
   rw [List.drop_eq_getElem_cons hlt]
   obtain ⟨_,e⟩:=List.getElem?_eq_some_iff.mp hd
   rw [e]
  rw [ed] at hc
  unfold cQ at hc
  obtain ⟨go,yl⟩:=U3 d hd
  refine .inr ⟨go,fun x H3 y=>?_⟩
  obtain ⟨s3,r3⟩:=yl x H3 y
  split at hc
  case h_2=>cases hc
  rename_i ts ht
  obtain ⟨vs,tv,rvs⟩:=Ma (K:=K) ht r3 (rJ _ _)
  refine ⟨vs,tv,?_⟩
  have k3:bK Θ H1 H3:=ki.trans (bK.of s3)
  have Jh:H3 D=some (SO (PySem.strKind P w) D (dedup acc)):=s3 _ _ hDi
  have c3:dW Θ Ci H3:=⟨ci.len,fun n b ns e2 e3=>s3 _ _ (ci.at_ n b ns e2 e3)⟩
  have SB:Sm K (jJ D Z (mO js e1) σ) Θ (jm ts++frB js e1) Ci (vs.map some++frees js σ) H3:=N5.blk hD k3 ⟨_,Jh,fun _ z=>nomatch z⟩ c3 rvs
  have wA:D∉Θ:=fun m=>(S1.cell.dom D m).ne hD
  split at hc
  ·rename_i Ct Mg
   refine ⟨_,Θ,_,Ci,false,Ct,SB,Mg,fun H4 k4 S4=>vW ⟨its.length - (i + 1),by omega,rfl,hlt,acc,rest,Ct,k3.trans k4,S4.cell,k4.keep _ _ Jh wA,hc,ea⟩⟩
  ·rename_i Ct Mg
   split at hc
   case h_2=>cases hc
   rename_i xr eB CB hfe
   split at hc
   case h_2=>cases hc
   rename_i yd W7
   split at hc
   case h_2=>cases hc
   rename_i zs Cz hzs
   cases rest with
   | nil=>cases hc
   | cons z rest=>
    have hc':yd::zs=PyData.str z::rest.map .str∧Cz=C':=by
     injection hc with hc
     injection hc with hc1 hc2
     exact ⟨hc1,hc2⟩
    obtain ⟨hc1,hc2⟩:=hc'
    injection hc1 with hc1 hc3
    subst hc1 hc2 hc3
    refine ⟨_,Θ,_,Ci,true,Ct,SB,Mg,fun H4 k4 S4=>vX ⟨_,Θ,_,Ct,xr,eB,CB,S4,hfe,fun y H5 k5 f5 R5=>?_⟩⟩
    obtain ⟨S5,r5⟩:=R5.lE W7
    have W8:=k5.keep _ _ (k4.keep _ _ Jh wA) wA
    rw [List.length_cons] at few
    refine ⟨dedup acc,z,W8,r5,by unfold scanBound; omega,its.length - (i + 1),by omega,rfl,hlt,acc++[z],rest,CB,?_,?_,by rw [uz]; exact aK,hzs,by rw [←ea,List.append_assoc]; rfl⟩
    ·have kk:=(k3.trans k4).trans k5
     refine ⟨fun a o ha na=>?_,fun a ha=>?_⟩
     ·rw [aO (bC ha hD)]
      exact kk.keep _ _ ha na
     ·by_cases z:a=D
      ·subst z; rw [aK]; exact Option.some_ne_none _
      ·rw [aO z]; exact kk.dom a ha
    ·refine ⟨S5.cell.len,fun n b ns e2 e3=>?_⟩
     rw [aO]
     ·exact S5.cell.at_ n b ns e2 e3
     ·intro z
      subst z
      exact wA (List.mem_of_getElem? e2)
  ·cases hc
theorem Xg {X:Cx} {NT NF:List Str} {js:List Nat} {elt tg iter:Expr} {ifs:List Expr} {T:mW} {fi:FI} {ft:FT} {fe:FE} {scope:Scope} {pos p1 pos1:Pos} (B:jt X NT NF js scope) (tk:oU tg NT T) (hc:X.calm=true) (g1:Gl X "sorted") (m1:X.mg "sorted"=none) (hi:PI X tg iter (tI X.K true fi))
  (hin:∀b,Ck (X.bk (NT++NF) scope b) ifs (kh X.K ft)∧PE (X.bk (NT++NF) scope b) elt (tE X.K fe))
  (hs:∀x,foldedSetIterable iter X.env x=pure x:=by intro _; rfl)
  (he:starEach [.SetComp elt [⟨tg,iter,ifs,0⟩] scope pos] X.env=(false,eval (.SetComp elt [⟨tg,iter,ifs,0⟩] scope pos) X.env)::starEach [] X.env:=by rfl) (hpl:(backTo pos1 (starEach [] X.env)).any (·.1)=false:=by rfl):
  PE X (.Call (.Name "sorted" p1) [.SetComp elt [⟨tg,iter,ifs,0⟩] scope pos] [] pos1) (tE X.K (Xf fi T ft fe js)):=
 (M3 hc (Xe (knd:=PySem.strKind X.prog X.w) (mk:=V.str) (fun k v r=>by obtain ⟨t,rfl⟩:=r; exact ⟨PySem.strKind_is _ _ _ _,rfl⟩) B tk hc hi hin hs) g1 m1 he hpl).weak QB
end L2
namespace L2
open PySem PySem.Spec PyProof.Rows PySem.W
noncomputable def rQ (i:Int) (n:Nat):List PyData:=(List.range n).map fun (k:Nat)=>.int (i - (k:Int))
noncomputable def Yb (hi:Int) (n:Nat):It:=⟨fun i _=>i < n,fun i H x H'=>H'=H∧x=.int (hi - i),fun i _=>n≤i⟩
theorem Jq {P:Program} {w:World} {K:PySem.W.Frag} {tg:Expr} (it:Addr) (lo:Int) (n:Nat):Turn P w K tg (Yb lo n) [it] it (fun i h=>IsRangeIter h it (lo + (i:Nat) * (-1)) ((n:Int) - (i:Nat)) (-1)) where
 mem:=by simp
 obj:=fun i h st b hb=>by
  have e:b=it:=by simpa using hb
  subst e
  exact ⟨_,st,fun v z=>by
   have z':Data.fields _=Data.cell v:=z
   cases z'⟩
 keep:=fun i h h' st k=>k it (by simp) _ st
 item:=by
  intro X hP hw hK hc i pins s σ H E I hf st hg
  subst hP hw hK
  obtain ⟨f0,f1,f2,f3,f4,f5⟩:=hf it (by simp)
  have W:=Walks.range (prog:=X.prog) (w:=X.w) (I.ok.hd hc) it lo (-1) n
  refine W.item i s _ _ hg st fun v h' tk hv st' kk=>?_
  obtain ⟨t,rfl⟩:=hv
  have I1:Inv X pins σ H { s with heap:=h',toks:=tk }:=I.turned (fun b o hb e=>kk b o (by simpa using hb) e) f0 f1 f3 f4 f5
  refine ⟨_,rfl,Fd (s:={ s with heap:=h',toks:=tk }) (n:="range_iterator") st' rfl rfl (by decide) ⟨.int (lo - i),H,I1,⟨t,?_⟩,⟨rfl,rfl⟩,st',fun b hb=>(hf b hb).1⟩⟩
  congr 1
  omega
 done:=by
  intro X hP hw hK hc i pins s σ H E I hf st hg
  subst hP hw hK
  obtain ⟨f0,f1,f2,f3,f4,f5⟩:=hf it (by simp)
  exact wpAny_pyNext_range_end (I.ok.hd hc) st (by have:n≤i:=hg; omega) fun h' eb=>⟨rfl,I.turned (t':=s.toks) (fun b o hb e=>eb b o hb e) f0 f1 f3 f4 f5⟩
 self:=fun _ _ _ _ _ st h=>wpAny_pyIter_rangeiter st h
theorem xP (a b:Int):Builtin.Range.rangeSize a b (-1)=if b < a then a - b else 0:=by
 unfold Builtin.Range.rangeSize
 rw [if_neg (by decide)]
 simp only [Int.neg_neg,Int.ediv_one]
 split <;> omega
theorem small_down {a b:Int} (ha:-(2 ^ 60)≤a) (ha':a < 2 ^ 60) (hb:-(2 ^ 60)≤b) (hb':b < 2 ^ 60):Builtin.Range.small a b (-1)=true:=by
 unfold Builtin.Range.small
 rw [xP]
 simp only [Builtin.Range.rangeFitsLong,Bool.and_eq_true,Bool.or_eq_true,decide_eq_true_eq,beq_iff_eq]
 rw [if_neg (show ¬((-1:Int) > 0) by decide),Bool.and_eq_true,decide_eq_true_eq,decide_eq_true_eq]
 split <;> omega
section
variable {X:Cx} {tg:Expr}
theorem QC {pins:List (Addr×Obj)} {σ:St} {H:Hp} {s:Shared} {R:It→Hp→Prop} {E:Value→Shared→Prop} {lo hi:Int} {t u v:Tok} {tk:Nat} (I:Inv X pins σ H s) (h1:-(2 ^ 60)≤lo) (h2:lo < 2 ^ 60) (h3:-(2 ^ 60)≤hi) (h4:hi < 2 ^ 60)
  (q:R (Yb lo (lo - hi).toNat) H):wpAny (model X.prog X.w) X.A (pyIter (.ref s.heap.objs.size)) (PIE X pins σ tg R) E { s with heap:=s.heap.push { cls:=.type "range",data:=.fields #[.int lo t,.int hi u,.int (-1) v] },toks:=tk }:=by
 refine wpAny_pyIter_range (IsRange.new ..) (small_down h1 h2 h3 h4) ?_
 have I1:Inv X pins σ H { s with heap:=s.heap.push { cls:=.type "range",data:=.fields #[.int lo t,.int hi u,.int (-1) v] },toks:=tk }:=I.kept fun b o e=>Heap.get?_push_of_some _ e
 refine ⟨(s.heap.push { cls:=.type "range",data:=.fields #[.int lo t,.int hi u,.int (-1) v] }).objs.size,[(s.heap.push { cls:=.type "range",data:=.fields #[.int lo t,.int hi u,.int (-1) v] }).objs.size],_,_,H,rfl,
  I1.kept (t':=tk) fun b o e=>Heap.get?_push_of_some _ e,Jq _ lo (lo - hi).toNat,?_,fun b hb=>?_,q⟩
 ·have e1:lo + ((0:Nat):Int) * (-1)=lo:=by simp
  have e2:(((lo - hi).toNat:Nat):Int) - ((0:Nat):Int)=Builtin.Range.rangeSize lo hi (-1):=by rw [xP]; split <;> omega
  show IsRangeIter _ _ (lo + ((0:Nat):Int) * (-1)) ((((lo - hi).toNat:Nat):Int) - ((0:Nat):Int)) (-1)
  rw [e1,e2]
  exact Heap.get?_push_size _ rfl
 ·have e:b=(s.heap.push { cls:=.type "range",data:=.fields #[.int lo t,.int hi u,.int (-1) v] }).objs.size:=by simpa using hb
  subst e
  exact I1.yr (Nat.le_refl _) (I1.hok.fresh (Nat.le_refl _))
noncomputable def Xh (ta:TA):TI:=fun σ H R=>ta σ H fun vs H1=>∃i j:Int,vs=[.int i,.int j,.int (-1)]∧((-(2 ^ 60)≤i∧i < 2 ^ 60)∧-(2 ^ 60)≤j∧j < 2 ^ 60)∧R (Yb i (i - j).toNat) H1
theorem Jr {a b c:Expr} {ta:TA} {p pos:Pos} (hg:Gl X "range") (hm:X.mg "range"=none) (ha:PA X [a,b,c] ta) (hs:starEach [a,b,c] X.env=(false,eval a X.env)::starEach [b,c] X.env:=by rfl) (hpl:(backTo pos (starEach [b,c] X.env)).any (·.1)=false:=by rfl):
  PI X tg (.Call (.Name "range" p) [a,b,c] [] pos) (Xh ta):=by
 intro pins s σ H R I h
 refine Call_ (gP I hg hm boot_range (PyProof.Rows.callWith_type1 (cF (ha pos pins s σ H _ I h) fun us s1 aR=>?_) hs hpl))
 obtain ⟨vs,H1,I1,r1,q1⟩:=aR
 obtain ⟨i,j,e,⟨⟨q1,q2⟩,q3,q4⟩,q⟩:=q1
 subst e
 cases r1 with
 | cons r rr=>
  cases rr with
  | cons r' rr=>
   cases rr with
   | cons r'' rr=>
    cases rr
    obtain ⟨t,rfl⟩:=r
    obtain ⟨t',rfl⟩:=r'
    obtain ⟨t'',rfl⟩:=r''
    refine call_range_3 (by decide) (QC I1 q1 q2 q3 q4 q) (Or.inl (PyProof.noPylong_small (by omega)))
theorem QD {P T:List Addr} {H:Hp} (lo:Int) (n:Nat):wu P T H (Yb lo n) (rQ lo n):=fun i H2 P2 s1 s2 nn=>by
 refine ⟨fun d hd=>?_,fun hi=>?_⟩
 ·unfold rQ at hd
  rw [List.getElem?_map] at hd
  by_cases hlt:i < n
  ·rw [List.getElem?_range hlt] at hd
   cases hd
   refine ⟨hlt,fun x H3 y=>?_⟩
   obtain ⟨rfl,rfl⟩:=y
   exact ⟨fun _ _ e=>e,rfl⟩
  ·rw [List.getElem?_eq_none (by rw [List.length_range]; omega)] at hd
   cases hd
 ·unfold rQ at hi
  rw [List.length_map,List.length_range] at hi
  exact Nat.le_of_eq hi.symm
noncomputable def QF (f g h:FB):FI:=fun env C=>match bCons f (bCons g (bCons h bNil)) env C with
 | some ([.int i,.int j,.int c],_,C1)=>if c=-1∧(-(2 ^ 60)≤i∧i < 2 ^ 60)∧-(2 ^ 60)≤j∧j < 2 ^ 60 then some (rQ i (i - j).toNat,env,C1) else none
 | _=>none
theorem Js {bb:Bool} {a b c:Expr} {f g h:FB} {p pos:Pos} (hg:Gl X "range") (hm:X.mg "range"=none) (ha:PA X [a,b,c] (RK X.K (bCons f (bCons g (bCons h bNil))))) (hs:starEach [a,b,c] X.env=(false,eval a X.env)::starEach [b,c] X.env:=by rfl) (hpl:(backTo pos (starEach [b,c] X.env)).any (·.1)=false:=by rfl):PI X tg (.Call (.Name "range" p) [a,b,c] [] pos) (tI X.K bb (QF f g h)):=
 (Jr hg hm ha hs hpl).weak fun σ H R aR=>by
  obtain ⟨Z,Θ,env,C,its,env',C',S,hf,q⟩:=aR
  unfold QF at hf
  split at hf
  ·rename_i i j c e1 C1 h1
   split at hf
   ·rename_i hj
    cases hf
    obtain ⟨rfl,hj⟩:=hj
    refine ⟨Z,Θ,env,C,[.int i,.int j,.int (-1)],e1,C',S,h1,fun vs H1 k f S1 b1=>?_⟩
    cases b1 with
    | cons b1 b2=>
     cases b2 with
     | cons b2 b3=>
      cases b3 with
      | cons b3 b4=>
       cases b4
       exact ⟨i,j,by rw [show _=V.int i from b1,show _=V.int j from b2,show _=V.int (-1) from b3],hj,q _ H1 k (Fz.refl _) (S.go k S1.cell) (QD i (i - j).toNat)⟩
   ·cases hf
  ·cases hf
end
noncomputable def QG (i:Nat):FS:=fun env C=>match env[i]? with
 | some (some (.ow (.list ds)))=>some (.nx,env.set i (some (.ow (.list ds.reverse))),C)
 | _=>none
theorem Hh {H:Hp}:∀{ds:List PyData} {vs:List V},dJ H ds vs→dJ H ds.reverse vs.reverse
 | [],_,h=>by cases (show _=[] from h); rfl
 | d::ds,_,h=>by
  obtain ⟨u,r,e1,q,s⟩:=h
  subst e1
  rw [List.reverse_cons,List.reverse_cons]
  exact mK (Hh s) ⟨u,[],rfl,q,rfl⟩
theorem Vh {X:Cx} {pos:Pos} {i:Nat} {o:Expr} {apos cpos:Pos} (ho:PE X o (tW i))
  (hs0:swapsWith (.Call (.Attribute o "reverse" apos) [] [] cpos) none pos.line X.env=pure false:=by rfl)
  (hbase:attributeBase o "reverse" X.env (eval o X.env)=eval o X.env:=by rfl) (hline:(apos.endLine==cpos.line)=true:=by rfl):
  PS X (.Expr (.Call (.Attribute o "reverse" apos) [] [] cpos) pos) (tS X.K (QG i)):=
 (Fb (T8 PySem.F.plainAttrs_list PySem.F.slot_list_reverse PySem.F.type_list_reverse (Rq.r Dc) ho hbase hline) hs0).weak fun D σ H aR=>by
  obtain ⟨Z,Θ,env,C,fl,env',C',S,hf,q⟩:=aR
  unfold QG at hf
  split at hf
  ·rename_i ds h0
   cases hf
   obtain ⟨v0,Vw,a,rfl,XX,ha0,r0⟩:=S.slot i _ h0
   refine ⟨_,Vw,.inl ⟨rfl,XX,cJ.of ha0⟩,a,XX,rfl,rfl,ha0,?_⟩
   exact q Θ σ _ (S.write h0 Vw ⟨_,aK,Hh r0⟩)
  ·cases hf
end L2
namespace L2
open PySem PySem.Spec PyProof.Rows PySem.W
theorem a_t0 {α:Type} (x:α) (r:List α):gC (x::r) 0=some x:=gF (j:=0) rfl
theorem a_t1 {α:Type} (a x:α) (r:List α):gC (a::x::r) 1=some x:=gF (j:=1) rfl
theorem a_t2 {α:Type} (a b x:α) (r:List α):gC (a::b::x::r) 2=some x:=gF (j:=2) rfl
theorem a_t3 {α:Type} (a b c x:α) (r:List α):gC (a::b::c::x::r) 3=some x:=gF (j:=3) rfl
theorem a_t4 {α:Type} (a b c d x:α) (r:List α):gC (a::b::c::d::x::r) 4=some x:=gF (j:=4) rfl
theorem a_t5 {α:Type} (a b c d e x:α) (r:List α):gC (a::b::c::d::e::x::r) 5=some x:=gF (j:=5) rfl
theorem a_t6 {α:Type} (a b c d e f x:α) (r:List α):gC (a::b::c::d::e::f::x::r) 6=some x:=gF (j:=6) rfl
theorem e_bin (op:PyData→PyData→Option Vl) (fa fb:FB) (env:En) (C:Ce):aG op fa fb env C=(fa env C).bind fun p=>(fb p.2.1 p.2.2).bind fun q=>(op p.1 q.1).bind fun r=>some (r,rst r env q.2.1,q.2.2):=by
 unfold aG
 rcases h:fa env C with _ | ⟨x,e1,C1⟩
 ·rfl
 ·rcases h2:fb e1 C1 with _ | ⟨y,e2,C2⟩
  ·simp only [Option.bind_some,h2]; rfl
  ·simp only [Option.bind_some,h2]
   cases op x y <;> rfl
theorem e_dat (f:FE) (env:En) (C:Ce):az f env C=(f env C).bind fun p=>(dat p.1).map fun d=>(d,p.2.1,p.2.2):=by
 unfold az
 rcases h:f env C with _ | ⟨x,e1,C1⟩ <;> rfl
theorem e_bv (i:Nat) (env:En) (C:Ce):aF i env C=(env[i]?).bind fun o=>o.bind fun x=>(dat x).map fun d=>(d,env,C):=by
 unfold aF
 rcases env[i]? with _ | (_ | x) <;> rfl
theorem e_and (f g:FT) (env:En) (C:Ce):jY f g env C=(f env C).bind fun p=>if p.1 then g env p.2 else some (false,p.2):=by
 unfold jY
 rcases h:f env C with _ | ⟨_ | _,D⟩ <;> rfl
theorem e_or (f g:FT) (env:En) (C:Ce):Jd f g env C=(f env C).bind fun p=>if p.1 then some (true,p.2) else g env p.2:=by
 unfold Jd
 rcases h:f env C with _ | ⟨_ | _,D⟩ <;> rfl
theorem e_not (f:FT) (env:En) (C:Ce):uF f env C=(f env C).map fun p=>(!p.1,p.2):=by
 unfold uF
 rcases h:f env C with _ | ⟨b,D⟩ <;> rfl
theorem e_if (c:FT) (f g:FS) (env:En) (C:Ce):j7 c f g env C=(c env C).bind fun p=>if p.1 then f env p.2 else g env p.2:=by
 unfold j7
 rcases h:c env C with _ | ⟨_ | _,D⟩ <;> rfl
theorem e_ifv (c:FT) (f g:FE) (env:En) (C:Ce):Lk c f g env C=(c env C).bind fun p=>if p.1 then f env p.2 else g env p.2:=by
 unfold Lk
 rcases h:c env C with _ | ⟨_ | _,D⟩ <;> rfl
theorem Xi (op op':PyData→PyData→Option Vl) (fa fb fc:FB) {env e1 e2 e3:En} {C C1 C2:Ce} {x y z:PyData} {a b:Bool} (h1:fa env C=some (x,e1,C1)) (h2:fb e1 C1=some (y,e2,C2)) (h3:op x y=some (.im (.bool a))) (h4:fc e2 C2=some (z,e3,C2)) (h5:op' y z=some (.im (.bool b))):Je op op' fa fb fc env C=some (.im (.bool (a&&b)),env,C2):=by
 unfold Je
 simp only [h1,h2,h3]
 cases a with
 | false=>rfl
 | true=>simp only [h4,h5]; rfl
theorem r_ow (d:PyData) (e f:En):rst (.ow d) e f=f:=rfl
theorem r_bool (b:Bool) (e f:En):rst (.im (.bool b)) e f=e:=rfl
theorem r_int (i:Int) (e f:En):rst (.im (.int i)) e f=e:=rfl
theorem r_str (z:Str) (e f:En):rst (.im (.str z)) e f=e:=rfl
theorem r_tl (l r:List PyData) (e f:En):rst (.im (.tuple (.list l::r))) e f=f:=rfl
theorem add_int (i j:Int):bH (.int i) (.int j)=some (.im (.int (i + j))):=rfl
theorem sub_int (i j:Int):xm (.int i) (.int j)=some (.im (.int (i - j))):=rfl
theorem le_int (i j:Int):yU (.int i) (.int j)=some (.im (.bool (decide (i≤j)))):=rfl
theorem lt_int (i j:Int):Lb (.int i) (.int j)=some (.im (.bool (decide (i < j)))):=rfl
theorem ge_int (i j:Int):Ja (.int i) (.int j)=some (.im (.bool (decide (j≤i)))):=rfl
theorem gt_int (i j:Int):PL (.int i) (.int j)=some (.im (.bool (decide (j < i)))):=rfl
theorem eq_int (i j:Int):o6 (.int i) (.int j)=some (.im (.bool (i==j))):=rfl
theorem eq_bool (a b:Bool):o6 (.bool a) (.bool b)=some (.im (.bool (a==b))):=rfl
theorem ne_bool (a b:Bool):sS (.bool a) (.bool b)=some (.im (.bool (!(a==b)))):=rfl
theorem ne_int (i j:Int):sS (.int i) (.int j)=some (.im (.bool (!(i==j)))):=rfl
theorem len_l (ds:List PyData):iI [.list ds]=some (.im (.int ds.length)):=rfl
theorem len_t (ds:List PyData):iI [.tuple ds]=some (.im (.int ds.length)):=rfl
theorem ix_t (ds:List PyData) (i:Int):bf (.tuple ds) (.int i)=(gC ds i).map .im:=rfl
theorem ix_l (ds:List PyData) (i:Int):bf (.list ds) (.int i)=(gC ds i).map .im:=rfl
theorem add_l {xs ys:List PyData} (h:xs.length + ys.length≤1000000):bH (.list xs) (.list ys)=some (.ow (.list (xs++ys))):=if_pos h
theorem Su {xs ys:List PyData} (h:xs.length + ys.length≤1000000):bH (.tuple xs) (.tuple ys)=some (.im (.tuple (xs++ys))):=by
 unfold bH
 cases xs with
 | nil=>rfl
 | cons x xs=>exact if_pos h
theorem lQ {ds:List PyData} {i:Nat} {d:PyData} (h:ds[i]?=some d):bf (.tuple ds) (.int i)=some (.im d):=by
 simp only [bf,NZ,gF h,Option.map_some]
theorem h_ix0 (h:dj):bf (bU h) (.int 0)=some (.im (.tuple (h.ps.map bJ))):=lQ (i:=0) rfl
theorem h_ix1 (h:dj):bf (bU h) (.int 1)=some (.im (.tuple (h.aU.map bG))):=lQ (i:=1) rfl
theorem h_ix2 (h:dj):bf (bU h) (.int 2)=some (.im (.tuple (h.leaves.map lO))):=lQ (i:=2) rfl
theorem h_ix3 (h:dj):bf (bU h) (.int 3)=some (.im (.tuple (h.rules.map iJ))):=lQ (i:=3) rfl
theorem k_ix0 (r:cY):bf (bG r) (.int 0)=some (.im (.int r.1)):=lQ (i:=0) rfl
theorem k_ix1 (r:cY):bf (bG r) (.int 1)=some (.im (.str r.2.1)):=lQ (i:=1) rfl
theorem k_ix2 (r:cY):bf (bG r) (.int 2)=some (.im (.int r.2.2.1)):=lQ (i:=2) rfl
theorem k_ix3 (r:cY):bf (bG r) (.int 3)=some (.im (.str r.2.2.2.1)):=lQ (i:=3) rfl
theorem k_ix4 (r:cY):bf (bG r) (.int 4)=some (.im (.int r.2.2.2.2.1)):=lQ (i:=4) rfl
theorem k_ix5 (r:cY):bf (bG r) (.int 5)=some (.im (.int r.2.2.2.2.2)):=lQ (i:=5) rfl
theorem BR {α:Type} {m:Int} (h0:-1000000≤m) (h1:m≤1000000) (a b:α):(if -(2 ^ 62)≤m∧m < 2 ^ 62 then a else b)=a:=if_pos (by omega)
theorem dH {k n:Nat} {body:FS} {xs:List Vl} {C C1:Ce} {r:Vl} (en:En) (hk:xs.length=k) (he:xs.map some++List.replicate (n - xs.length) none=en) (h:(body en C).map (fun p=>(p.1,p.2.2))=some (.rt r,C1)) (hr:Bl C.length r=true) (hC:C1.length=C.length):fN k n body xs C=some (r,C1):=by
 unfold fN
 rw [if_pos hk,he]
 cases hb:body en C with
 | none=>rw [hb] at h; cases h
 | some p=>
  rw [hb] at h
  obtain ⟨fl,e1,C2⟩:=p
  have h:(fl,C2)=(Fl.rt r,C1):=Option.some.inj h
  injection h with h1 h2
  subst h1 h2
  simp only [hr,if_true,Bu hC]
end L2
namespace L2
open PySem PySem.Spec PyProof.Rows PySem.W
theorem letters (k:Int) (h0:0≤k) (h1:k < 26):NZ (.str abc) (.int k)=some (.str ⟨#[97 + k.toNat]⟩):=by
 have e:=Vd h0 h1
 have hl:abc.length≤LIM:=by decide +kernel
 simp only [NZ]
 rw [if_pos hl,e]
 rfl
theorem nW:∀zs:List Str,strsOf (zs.map PyData.str)=some zs
 | []=>rfl
 | z::zs=>by
  show (match strsOf (zs.map PyData.str) with | some t=>some (z::t) | none=>none)=_
  rw [nW zs]
theorem vm:∀ns:List Int,intsOf (ns.map PyData.int)=some ns
 | []=>rfl
 | n::ns=>by
  show (match intsOf (ns.map PyData.int) with | some t=>some (n::t) | none=>none)=_
  rw [vm ns]
theorem M4:abc.cps.toList=(List.range 26).map (97 + ·):=by decide +kernel
theorem xQ:chars abc=(List.range 26).map fun i=>.str ⟨#[97 + i]⟩:=by
 unfold chars
 rw [M4,List.map_map]
 rfl
theorem noLs_strs:∀zs:List Str,iC (zs.map PyData.str)=true
 | []=>rfl
 | z::zs=>by
  show (true&&iC (zs.map PyData.str))=true
  rw [noLs_strs zs]
  rfl
theorem vo:∀cs:List Nat,iC (cs.map fun c=>PyData.str ⟨#[c]⟩)=true
 | []=>rfl
 | c::cs=>by
  show (true&&iC (cs.map fun c=>PyData.str ⟨#[c]⟩))=true
  rw [vo cs]
  rfl
theorem pP:∀cs:List Nat,strsOf (cs.map fun c=>PyData.str ⟨#[c]⟩)=some (cs.map fun c=>(⟨#[c]⟩:Str))
 | []=>rfl
 | c::cs=>by
  show (match strsOf (cs.map fun c=>PyData.str ⟨#[c]⟩) with | some t=>some (_::t) | none=>none)=_
  rw [pP cs]
  rfl
theorem Jt:(Str.ofString "").length=0:=by decide +kernel
theorem ne_nil (zs:List Str) (hz:∀z∈zs,nameB z=true):sS (.list (zs.map .str)) (.list [])=some (.im (.bool (!zs.isEmpty))):=by
 have s1:PySem.SeqAt.shaped (.list (zs.map PyData.str))=true:=BJ fun z m=>u0 (hz z m)
 have n1:IW (.list (zs.map PyData.str))=true:=(u5 fun z m=>u0 (hz z m)).2.2
 have e:Us (.list (zs.map .str)) (.list [])=some zs.isEmpty:=by
  show (if IW (.list (zs.map PyData.str))&&IW (.list [])&&(PySem.SeqAt.shaped (.list (zs.map PyData.str))&&PySem.SeqAt.shaped (.list [])) then some (PyData.eqv (.list (zs.map .str)) (.list [])) else none)=_
  rw [n1,s1]
  cases zs <;> rfl
 simp only [sS,e,Option.map_some]
theorem QH {zs:List Str} {k:Int} (h0:0≤k) (h1:k < zs.length):∃z,z∈zs∧zs[k.toNat]?=some z∧bf (.list (zs.map .str)) (.int k)=some (.im (.str z)):=by
 obtain ⟨x,e1,e2⟩:=uW (xs:=zs.map PyData.str) h0 (by rw [List.length_map]; exact h1)
 rw [List.getElem?_map] at e2
 cases hz:zs[k.toNat]? with
 | none=>rw [hz] at e2; cases e2
 | some z=>
  rw [hz] at e2
  cases e2
  refine ⟨z,List.mem_of_getElem? hz,rfl,?_⟩
  simp only [bf,NZ,e1,Option.map_some]
theorem QJ {d:PyData} {r:List PyData}:bf (.tuple (d::r)) (.int 0)=some (.im d):=by
 have:gC (d::r) (0:Int)=some d:=gF (j:=0) rfl
 simp only [bf,NZ,this,Option.map_some]
theorem xR {fe:FE} {C:Ce} {ps:List (Str×Str)} (he:fe=aG bf (aF 0) (az (fCst (.int 0)))):cQ .one fY fe [] (ps.map bJ) C=some ((ps.map (·.1)).map .str,C):=by
 subst he
 rw [nP (fun _=>true) (fun d=>match d with | .tuple (x::_)=>x | _=>.none) fun d hd=>?_]
 ·rw [List.filter_eq_self.mpr fun _ _=>rfl,List.map_map,List.map_map]
  rfl
 ·obtain ⟨p,_,rfl⟩:=List.mem_map.mp hd
  exact ⟨_,rfl,rfl,fun _=>⟨.im (.str p.1),_,Vc (x:=bJ p) (e1:=[some (.im (bJ p))]) (e2:=[some (.im (bJ p))]) rfl (Vb rfl rfl) QJ,rfl⟩⟩
noncomputable abbrev Eh (b:Nat) (zs:List Str) (ps:List (Str×Str)) (own:List Str) (rk:List cY) (lv:List nQ) (ru:List (PyData×PyData)) (v7 v8 v9 v10 v11 Ju N6 N7 N8 JG JH Hi:Option Vl):En:=
 [some (.ce b),some (.im (.list (zs.map .str))),some (.ow (.list (ps.map bJ))),some (.ow (.list (own.map .str))),some (.ow (.list (rk.map bG))),some (.ow (.list (lv.map lO))),some (.ow (.dict ru)),v7,v8,v9,v10,v11,Ju,N6,N7,N8,JG,JH,Hi]
noncomputable def fH (p:Str) (s:Int):PyData:=.tuple [.str p,.int s]
noncomputable def cB (rs:List cR):List (PyData×PyData):=rs.map fun r=>(fH r.1 r.2.1,di r.2.2)
noncomputable def rR (p:Str) (s:Int) (q:cR):Bool:=decide (q.1=p∧q.2.1=s)
noncomputable def BV (rs:List cR) (p:Str) (s:Int) (ss:List ni):List cR:=if rs.any (rR p s) then rs.map (fun q=>if rR p s q then (q.1,q.2.1,ss) else q) else rs++[(p,s,ss)]
theorem tO (p:Str) (s:Int):cO (fH p s)=some [.inr p,.inl s]:=rfl
theorem zG:∀rs:List cR,cz cO (cB rs)=some (rs.map fun r=>[.inr r.1,.inl r.2.1])
 | []=>rfl
 | r::rs=>by
  rw [show cB (r::rs)=(fH r.1 r.2.1,di r.2.2)::cB rs from rfl]
  unfold cz
  rw [zG rs]
  simp only [tO]
  rfl
theorem Hj (p:Str) (s:Int) (q:cR):decide (cO (fH q.1 q.2.1)=some [.inr p,.inl s])=rR p s q:=by
 rw [tO,Bool.eq_iff_iff]
 unfold rR
 simp
theorem Vi (rs:List cR) (p:Str) (s:Int) (ss:List ni):putD (cB rs) (fH p s) (di ss)=some (cB (BV rs p s ss)):=by
 have h:putD (cB rs) (fH p s) (di ss)=some (jG cO [.inr p,.inl s] (fH p s) (di ss) (cB rs)):=by
  show (if (cz cO (cB rs)).isSome then some (jG cO [.inr p,.inl s] (fH p s) (di ss) (cB rs)) else none)=_
  rw [zG]
  rfl
 rw [h]
 congr 1
 unfold jG BV
 have ha:((cB rs).any fun q=>decide (cO q.1=some [.inr p,.inl s]))=rs.any (rR p s):=by
  unfold cB
  rw [List.any_map]
  congr 1
  funext q
  exact Hj p s q
 rw [ha]
 cases hb:rs.any (rR p s) with
 | true=>
  rw [if_pos rfl,if_pos rfl]
  unfold cB
  rw [List.map_map,List.map_map]
  congr 1
  funext q
  show (if cO (fH q.1 q.2.1)=some [.inr p,.inl s] then (fH q.1 q.2.1,di ss) else (fH q.1 q.2.1,di q.2.2))=_
  have:=Hj p s q
  cases hs:rR p s q with
  | true=>
   rw [hs] at this
   rw [if_pos (of_decide_eq_true this)]
   simp [hs]
  | false=>
   rw [hs] at this
   rw [if_neg (of_decide_eq_false this)]
   simp [hs]
 | false=>
  rw [if_neg (by decide),if_neg (by decide)]
  unfold cB
  rw [List.map_append]
  rfl
noncomputable abbrev JK (r:cR):Str×Int:=(r.1,r.2.1)
theorem QK {own:List Str} {rs:List cR} {p:Str} {s:Int} {ss:List ni} (h:∀r∈rs,nR own r) (hr:nR own (p,s,ss)) (nd:(rs.map JK).Nodup):(∀r∈BV rs p s ss,nR own r)∧((BV rs p s ss).map JK).Nodup∧(BV rs p s ss).length≤rs.length + 1:=by
 unfold BV
 split
 ·refine ⟨fun r m=>?_,?_,by rw [List.length_map]; omega⟩
  ·obtain ⟨q,hq,rfl⟩:=List.mem_map.mp m
   split
   ·rename_i hs
    have e:q.1=p∧q.2.1=s:=of_decide_eq_true hs
    have:=h q hq
    exact ⟨this.part,this.sum,hr.many,hr.Sg⟩
   ·exact h q hq
  ·rw [List.map_map]
   have:(JK ∘ fun q:cR=>if rR p s q=true then (q.1,q.2.1,ss) else q)=JK:=by
    funext q
    show JK (if _ then _ else _)=_
    split <;> rfl
   rw [this]
   exact nd
 ·rename_i hn
  refine ⟨fun r m=>?_,?_,by simp⟩
  ·rcases List.mem_append.mp m with m | m
   ·exact h r m
   ·rw [List.mem_singleton.mp m]; exact hr
  ·rw [List.map_append,List.nodup_append]
   refine ⟨nd,by simp,fun x hx y hy e=>?_⟩
   have hy':y=(p,s):=List.mem_singleton.mp hy
   subst e
   obtain ⟨q,hq,hqe⟩:=List.mem_map.mp hx
   refine hn (List.any_eq_true.mpr ⟨q,hq,?_⟩)
   rw [hy'] at hqe
   have h1:q.1=p:=congrArg Prod.fst hqe
   have h2:q.2.1=s:=congrArg Prod.snd hqe
   exact decide_eq_true ⟨h1,h2⟩
theorem rst_same (r:Vl) (e:En):rst r e e=e:=by
 cases r <;> simp [rst]
theorem Hl {ns:List Int} {i:Nat} {d:PyData} (h:(ns.map PyData.int)[i]?=some d):∃x,d=.int x∧ns[i]?=some x∧x∈ns∧i < ns.length:=by
 rw [List.getElem?_map] at h
 cases hx:ns[i]? with
 | none=>rw [hx] at h; cases h
 | some x=>
  rw [hx] at h
  exact ⟨x,(Option.some.inj h).symm,rfl,List.mem_of_getElem? hx,(List.getElem?_eq_some_iff.mp hx).1⟩
theorem take_snoc {ns:List Int} {i:Nat} {x:Int} (h:ns[i]?=some x):ns.take (i + 1)=ns.take i++[x]:=by
 rw [List.take_add_one,h]
 rfl
theorem QL:∀(rs:List cR),rs.length≤10→∃rs':List cR,rs'.Perm rs∧cX [.dict (cB rs)]=some (.ow (.list (rs'.map fun r=>fH r.1 r.2.1)))
 | [],_=>⟨[],List.Perm.refl _,rfl⟩
 | r::rs,h=>by
  rw [List.length_cons] at h
  have hall:((cB (r::rs)).all fun p=>decide (qN p.1=some [false,true]))=true:=by
   rw [List.all_eq_true]
   intro p hp
   obtain ⟨q,_,rfl⟩:=List.mem_map.mp hp
   exact decide_eq_true rfl
  have e:cX [.dict (cB (r::rs))]=some (.ow (.list (qO ((cB (r::rs)).map (·.1))))):=by
   have h2:tL [.dict (cB (r::rs))]=some (.ow (.list (qO ((cB (r::rs)).map (·.1))))):=by
    show (if (cB rs).length < 63∧((cB (r::rs)).all fun p=>decide (qN p.1=some [false,true]))=true then some (Vl.ow (.list (qO ((cB (r::rs)).map (·.1))))) else none)=_
    exact if_pos ⟨by unfold cB; rw [List.length_map]; omega,hall⟩
   unfold cX
   rw [show gZ [.dict (cB (r::rs))]=none from rfl,h2]
  have p:=xJ (ds:=(cB (r::rs)).map (·.1)) fun d hd=>by obtain ⟨p,hp,rfl⟩:=List.mem_map.mp hd; obtain ⟨q,_,rfl⟩:=List.mem_map.mp hp; rfl
  have em:(cB (r::rs)).map (·.1)=(r::rs).map fun r=>fH r.1 r.2.1:=by
   unfold cB
   rw [List.map_map]
   rfl
  rw [em] at p
  obtain ⟨rs',p1,p2⟩:=pL p
  exact ⟨rs',p1,by rw [e,em,p2]⟩
theorem Ho:∀{rs:List cR} {r:cR},r∈rs→(rs.map JK).Nodup→gR cO [.inr r.1,.inl r.2.1] (cB rs)=some (di r.2.2)
 | q::rs,r,hm,hn=>by
  rw [List.map_cons,List.nodup_cons] at hn
  show (if cO (fH q.1 q.2.1)=some [.inr r.1,.inl r.2.1] then some (di q.2.2) else gR cO [.inr r.1,.inl r.2.1] (cB rs))=_
  rcases List.mem_cons.mp hm with rfl | hm
  ·rw [if_pos (tO _ _)]
  ·rw [if_neg,Ho hm hn.2]
   intro e
   rw [tO] at e
   have e1:q.1=r.1:=by injection e with e; injection e with e1 e2; injection e1
   have e2:q.2.1=r.2.1:=by injection e with e; injection e with e1 e2; injection e2 with e2 _; injection e2
   exact hn.1 (List.mem_map.mpr ⟨r,hm,by show (r.1,r.2.1)=(q.1,q.2.1); rw [e1,e2]⟩)
theorem Xj {rs:List cR} {r:cR} (hm:r∈rs) (hn:(rs.map JK).Nodup):bf (.dict (cB rs)) (fH r.1 r.2.1)=some (.im (di r.2.2)):=by
 have h:iG (cB rs) (fH r.1 r.2.1)=some (some (di r.2.2)):=by
  show (if (cz cO (cB rs)).isSome then some (gR cO [.inr r.1,.inl r.2.1] (cB rs)) else none)=_
  rw [zG,Ho hm hn]
  rfl
 unfold bf NZ
 simp only [h,Option.map_some]
theorem xT:∀ss:List ni,iC (ss.map nj)=true
 | []=>rfl
 | s::ss=>by
  show (true&&iC (ss.map nj))=true
  rw [xT ss]
  rfl
theorem xU:∀rs:List cR,iC (rs.map iJ)=true
 | []=>rfl
 | r::rs=>by
  show ((true&&(true&&(iC (r.2.2.map nj)&&true)))&&iC (rs.map iJ))=true
  rw [xU rs,xT]
  rfl
theorem Ei:∀(ps:List (Str×Str)),ps.length≤8→∃ps':List (Str×Str),ps'.Perm ps∧cX [.list (ps.map bJ)]=some (.ow (.list (ps'.map bJ)))
 | [],_=>⟨[],List.Perm.refl _,rfl⟩
 | r::rs,h=>by
  have hall:(((r::rs).map bJ).all fun p=>decide (qN p=some [false,false]))=true:=by
   rw [List.all_eq_true]
   intro p hp
   obtain ⟨q,_,rfl⟩:=List.mem_map.mp hp
   exact decide_eq_true rfl
  have hs:uP ((r::rs).map bJ)=some (qO ((r::rs).map bJ)):=by
   unfold uP
   rw [if_pos (by rw [List.length_map]; omega),show intsOf ((r::rs).map bJ)=none from rfl,show strsOf ((r::rs).map bJ)=none from rfl]
   show (if (((r::rs).map bJ).all fun p=>decide (qN p=some [false,false]))=true then some (qO ((r::rs).map bJ)) else none)=_
   exact if_pos hall
  obtain ⟨ps',p1,p2⟩:=pL (xJ (ds:=(r::rs).map bJ) fun d hd=>by obtain ⟨p,_,rfl⟩:=List.mem_map.mp hd; rfl)
  refine ⟨ps',p1,?_⟩
  unfold cX gZ
  simp only [hs,p2,Option.map_some]
theorem Sv {k n:Nat} {body:FS} {xs:List Vl} {en e1:En} {C C1:Ce} {r:Vl} (hk:xs.length=k) (he:xs.map some++List.replicate (n - xs.length) none=en) (h:body en C=some (.rt r,e1,C1)) (hr:Bl C.length r=true) (hC:C1.length=C.length):fN k n body xs C=some (r,C1):=by
 unfold fN
 rw [if_pos hk,he,h]
 simp only [hr,if_true,Bu hC]
theorem qR:∀zs:List Str,(zs.map PyData.str).all fW=true
 | []=>rfl
 | z::zs=>by
  rw [List.map_cons,List.all_cons,qR zs]
  rfl
theorem in_strs (z:Str) (zs:List Str):yX (.str z) (.list (zs.map .str))=some (.im (.bool (decide (z∈zs)))):=by
 have:inB (.str z) (.list (zs.map .str))=some (inD (.str z) (zs.map .str)):=if_pos (by rw [qR]; rfl)
 unfold yX
 rw [this,By]
 rfl
theorem eq_strs (x z:Str):o6 (.str x) (.str z)=some (.im (.bool (decide (x=z)))):=by
 have:(x==z)=decide (x=z):=by rw [Bool.eq_iff_iff]; simp
 show some (Vl.im (.bool (x==z)))=_
 rw [this]
theorem ne_strs (x z:Str):sS (.str x) (.str z)=some (.im (.bool (!decide (x=z)))):=by
 have:(x==z)=decide (x=z):=by rw [Bool.eq_iff_iff]; simp
 show some (Vl.im (.bool (!(x==z))))=_
 rw [this]
noncomputable def rT (ps:List (Str×Str)) (q:List (Str×Str)):List (Str×PyData):=q.map fun p=>(p.1,.list ((up ps p.1).map .str))
theorem Hq {ps:List (Str×Str)} (nd:(ps.map (·.1)).Nodup) {z w:Str} {g:Str×Str→PyData} (h:(z,w)∈ps):((ps.map fun p=>(p.1,g p)).find? fun p=>decide (p.1=z)).map (·.2)=some (g (z,w)):=by
 rw [vh]
 have e:=(cj nd).mpr h
 unfold cG at e
 cases hf:ps.find? (fun p=>decide (p.1=z)) with
 | none=>rw [hf] at e; cases e
 | some x=>
  rw [hf] at e
  have h1:x.1=z:=by simpa using List.find?_some hf
  have h2:x.2=w:=Option.some.inj e
  rw [show x=(z,w) by rw [←h1,←h2]]
  rfl
theorem BW {ps:List (Str×Str)} {z:Str} {g:Str×Str→PyData} (h:z∉ps.map (·.1)):((ps.map fun p=>(p.1,g p)).find? fun p=>decide (p.1=z)).map (·.2)=none:=by
 rw [vh]
 rw [List.find?_eq_none.mpr fun x hx e=>h (List.mem_map.mpr ⟨x,hx,of_decide_eq_true e⟩)]
 rfl
theorem get_eq {fd fk:FB} {fx:FE} {env e1 e2 e3:En} {C C1 C2 C3:Ce} {kvs:List (PyData×PyData)} {dk x:PyData} {r:Vl} {o:Option PyData} (h1:fd env C=some (.dict kvs,e1,C1)) (h2:fk e1 C1=some (dk,e2,C2)) (h3:fx e2 C2=some (r,e3,C3)) (h4:iG kvs dk=some o) (h5:still r=.im x) (he:e3=env):Bs fd fk fx env C=some (.im (o.getD x),env,C3):=by
 subst he
 unfold Bs
 simp only [h1,h2,h3,h4]
 cases o with
 | none=>simp only [h5,rst_same]; rfl
 | some d=>simp only [rst_same]; rfl
noncomputable def gH (q:List (Str×Str)):List (Str×PyData):=q.map fun p=>(p.1,.str p.2)
theorem BX:∀q,Ea (fP (gH q))=true
 | []=>rfl
 | x::q=>by
  show (true&&Ea (fP (gH q)))=true
  rw [BX q]
  rfl
theorem BZ (q:List (Str×Str)) (z:Str):iG (fP (gH q)) (.str z)=some ((cG q z).map .str):=by
 rw [qQ]
 unfold gH cG
 rw [vh,Option.map_map]
 rfl
theorem noLs_ints:∀l:List Int,iC (l.map PyData.int)=true
 | []=>rfl
 | x::l=>by
  show (true&&iC (l.map PyData.int))=true
  rw [noLs_ints l]
  rfl
theorem vp:∀(n:Nat),xG [.list (List.replicate n (.bool true))]=some (.im (.bool true))∧iC (List.replicate n (.bool true))=true:=by
 intro n
 have h:boolsOf (List.replicate n (.bool true))=some (List.replicate n true)∧iC (List.replicate n (.bool true))=true:=by
  induction n with
  | zero=>exact ⟨rfl,rfl⟩
  | succ n ih=>
   rw [List.replicate_succ,List.replicate_succ]
   refine ⟨?_,?_⟩
   ·unfold boolsOf
    rw [ih.1]
   ·show (true&&iC (List.replicate n (.bool true)))=true
    rw [ih.2]
    rfl
 refine ⟨?_,h.2⟩
 unfold xG
 simp only [h.1,Option.map_some]
 congr 3
 rw [List.all_eq_true]
 intro b hb
 exact (List.mem_replicate.mp hb).2
theorem QM {zs:List Str} {ps:List (Str×Str)} (hN:Names zs) (hP:bO zs ps) (z:Str):∃o,iG (fP (rT ps ps)) (.str z)=some o∧o.getD (.list [])=.list ((up ps z).map .str):=by
 have nd:=d7 hN hP
 rw [qQ]
 cases e:cG ps z with
 | none=>
  refine ⟨none,congrArg some (BW fun hm=>?_),by rw [Hg e]; rfl⟩
  obtain ⟨x,hx,hz⟩:=List.mem_map.mp hm
  have:=(cj nd (z:=z) (w:=x.2)).mpr (by rw [←hz]; exact hx)
  rw [e] at this
  cases this
 | some w=>exact ⟨_,congrArg some (Hq nd ((cj nd).mp e)),rfl⟩
theorem xV:∀ps:List (Str×Str),gQ (ps.map bJ)=true
 | []=>rfl
 | p::ps=>by show (true&&gQ (ps.map bJ))=true; rw [xV ps]; rfl
theorem xW:∀ps:List cY,gQ (ps.map bG)=true
 | []=>rfl
 | p::ps=>by show (true&&gQ (ps.map bG))=true; rw [xW ps]; rfl
theorem vq:∀ps:List nQ,gQ (ps.map lO)=true
 | []=>rfl
 | p::ps=>by show (true&&gQ (ps.map lO))=true; rw [vq ps]; rfl
theorem xX:∀ps:List ni,gQ (ps.map nj)=true
 | []=>rfl
 | p::ps=>by show (true&&gQ (ps.map nj))=true; rw [xX ps]; rfl
theorem xY:∀rs:List cR,gQ (rs.map iJ)=true
 | []=>rfl
 | r::rs=>by
  show ((true&&(true&&(gQ (r.2.2.map nj)&&true)))&&gQ (rs.map iJ))=true
  rw [xY rs,xX]
  rfl
theorem Jv (h:dj):IW (bU h)=true:=by
 show (gQ (h.ps.map bJ)&&(gQ (h.aU.map bG)&&(gQ (h.leaves.map lO)&&(gQ (h.rules.map iJ)&&true))))=true
 rw [xV,xW,vq,xY]
 rfl
theorem QS {zs:List Str} {ps:List (Str×Str)} {h:dj} (hz:∀z∈zs,nameB z=true) (hp:bO zs ps) (g:eG zs ps h):qM [bU h]=some (.im (.str (bU h).shown)):=by
 have s:=Jl hz hp g
 unfold qM
 refine if_pos ?_
 have h1:(bU h).depth≤60:=Nat.le_trans s.deep (by decide)
 have h2:(bU h).shown.length≤LIM:=Nat.le_trans s.len (by show 200000≤1000000; decide)
 rw [Jv,s.Ve,decide_eq_true h1,decide_eq_true h2]
 rfl
theorem M5 {lo:Int} {n i:Nat} {d:PyData} (h:(rQ lo n)[i]?=some d):d=.int (lo - i)∧i < n:=by
 unfold rQ at h
 rw [List.getElem?_map] at h
 by_cases hi:i < n
 ·rw [List.getElem?_range hi] at h
  exact ⟨(Option.some.inj h).symm,hi⟩
 ·rw [List.getElem?_eq_none (by rw [List.length_range]; omega)] at h
  cases h
theorem eN {zs:List Str} {k:Int} (h0:0≤k) (h1:k < zs.length):∃z,z∈zs∧zs[k.toNat]?=some z∧gC (zs.map PyData.str) k=some (.str z):=by
 obtain ⟨x,e1,e2⟩:=uW (xs:=zs.map PyData.str) h0 (by rw [List.length_map]; exact h1)
 rw [List.getElem?_map] at e2
 cases hz:zs[k.toNat]? with
 | none=>rw [hz] at e2; cases e2
 | some z=>
  rw [hz] at e2
  cases e2
  exact ⟨z,List.mem_of_getElem? hz,rfl,e1⟩
theorem Vj {α:Type} {f:α→PyData} {l:List α} {i:Nat} {d:PyData} (h:(l.map f)[i]?=some d):∃x,l[i]?=some x∧d=f x:=by
 rw [List.getElem?_map] at h
 cases hx:l[i]? with
 | none=>rw [hx] at h; cases h
 | some x=>rw [hx] at h; exact ⟨x,rfl,(Option.some.inj h).symm⟩
theorem QT {zs:List Str} {ps:List (Str×Str)} {i:Nat} {x:Str×Str} (hN:Names zs) (hP:bO zs ps) (hx:ps[i]?=some x):
  ∃o,iG (fP (rT ps (ps.take i))) (.str x.2)=some o∧o.getD (.list [])=.list ((up ps x.2).map .str)∧putD (fP (rT ps (ps.take i))) (.str x.1) (.list ((up ps x.1).map .str))=some (fP (rT ps (ps.take (i + 1))))∧up ps x.1=x.1::up ps x.2:=by
 have nd:=d7 hN hP
 have hi:=(List.getElem?_eq_some_iff.mp hx).1
 have lk:cG ps x.1=some x.2:=(cj nd).mpr (List.mem_of_getElem? hx)
 have hu:=Qz hN hP lk
 have ndt:((ps.take i).map (·.1)).Nodup:=by
  rw [List.map_take]
  exact nd.sublist (List.take_sublist _ _)
 have hg:∃o,iG (fP (rT ps (ps.take i))) (.str x.2)=some o∧o.getD (.list [])=.list ((up ps x.2).map .str):=by
  rw [qQ]
  rcases (hP i x hx).2 with h2 | ⟨j,hj,h2⟩
  ·refine ⟨none,?_,?_⟩
   ·congr 1
    refine BW fun hm=>?_
    have hm':x.2∈ps.map (·.1):=by
     rw [List.map_take] at hm
     exact List.mem_of_mem_take hm
    have:=vf hN hP hm'
    rw [h2,pM] at this
    cases this
   ·rw [h2,Hg (nU hN hP)]
    rfl
  ·have hjl:j < ps.length:=by omega
   have g:=hP j ps[j] (List.getElem?_eq_getElem hjl)
   have e2:ps[j].1=x.2:=by
    have:=g.1
    rw [h2] at this
    exact (Option.some.inj this).symm
   have hm:(x.2,ps[j].2)∈ps.take i:=by
    rw [←e2]
    have:(ps.take i)[j]?=some ps[j]:=by rw [List.getElem?_take,if_pos hj,List.getElem?_eq_getElem hjl]
    exact List.mem_of_getElem? this
   exact ⟨_,congrArg some (Hq ndt hm),rfl⟩
 obtain ⟨o,ho1,ho2⟩:=hg
 refine ⟨o,ho1,ho2,?_,hu⟩
 have ht:ps.take (i + 1)=ps.take i++[x]:=by rw [List.take_add_one,hx]; rfl
 rw [MN (l:=rT ps (ps.take i)) (z:=x.1) (d:=.list ((up ps x.1).map .str)),ht]
 ·unfold rT
  rw [List.map_append]
  rfl
 ·unfold rT
  rw [List.map_map]
  show x.1∉(ps.take i).map (·.1)
  intro hm
  obtain ⟨y,hy,he⟩:=List.mem_map.mp hm
  obtain ⟨j,hj,hjy⟩:=List.getElem_of_mem hy
  rw [List.length_take] at hj
  rw [List.getElem_take] at hjy
  have h1:(ps.map (·.1))[j]'(by rw [List.length_map]; omega)=(ps.map (·.1))[i]'(by rw [List.length_map]; omega):=by
   rw [List.getElem_map,List.getElem_map,hjy,he,←(List.getElem?_eq_some_iff.mp hx).2]
  exact List.pairwise_iff_getElem.mp nd j i _ _ (by omega) h1
noncomputable def Bf (L:Nat) (C:Ce) (b k:Nat):Prop:=C.length=L∧∃x y z:Int,C[b]?=some [x,y,z]∧0≤x∧0≤y∧y≤3000000000∧0≤z∧z + k≤900000
theorem Bf.mono {L:Nat} {C:Ce} {b k j:Nat} (h:Bf L C b k) (hj:j≤k):Bf L C b j:=by
 obtain ⟨l,x,y,z,h1,h2,h3,h4,h5,h6⟩:=h
 exact ⟨l,x,y,z,h1,h2,h3,h4,h5,by omega⟩
theorem Bf.dec {L:Nat} {C:Ce} {b k:Nat} (h:Bf L C b (k + 1)):Bf L C b k:=h.mono (Nat.le_succ k)
theorem Bf.eq {L:Nat} {C C':Ce} {b b' k k':Nat} (h:Bf L C b k) (h':Bf L C' b' k'):C'.length=C.length:=h'.1.trans h.1.symm
theorem Vk (C:Ce) {x y:Int} (h0:0≤x) (h1:0≤y) (h2:y≤3000000000):Bf (C.length + 1) (C++[[x,y,0]]) C.length 800000:=by
 refine ⟨by simp,x,y,0,?_,h0,h1,h2,Int.le_refl _,by omega⟩
 rw [List.getElem?_append_right (Nat.le_refl _),Nat.sub_self]
 rfl
inductive HE (b:Nat) (zs:List Str) (ps:List (Str×Str)) (own:List Str) (rk:List cY) (lv:List nQ) (ru:List (PyData×PyData)):En→Prop
 | mk (v7 v8 v9 v10 v11 Ju N6 N7 N8 JG JH Hi:Option Vl):HE b zs ps own rk lv ru (Eh b zs ps own rk lv ru v7 v8 v9 v10 v11 Ju N6 N7 N8 JG JH Hi)
end L2
namespace Zr
open PySem L2
noncomputable def top (i:Nat):Stmt:=PySem.Challenge.pw_rankseals_k06_holders_of_ranks.main.body.getD i (.Pass ⟨0,0,0,0⟩)
noncomputable abbrev cW:Stmt:=top 1
theorem fQ:cg (["house","part","outer","over"]:List Str) (["house","part"]:List Str) (aC cW):=⟨rfl,rfl,rfl,by decide +kernel,rfl,by decide +kernel,by decide +kernel⟩
noncomputable abbrev fJ:Stmt:=top 3
theorem nY:cg (["house","person","part","day","over","held"]:List Str) (["house","person","part","day"]:List Str) (aC fJ):=⟨rfl,rfl,rfl,by decide +kernel,rfl,by decide +kernel,by decide +kernel⟩
noncomputable abbrev cH:Stmt:=top 4
theorem nq:cg (["house","rank","part","day","people"]:List Str) (["house","rank","part","day"]:List Str) (aC cH):=⟨rfl,rfl,rfl,by decide +kernel,rfl,by decide +kernel,by decide +kernel⟩
noncomputable abbrev qT:Stmt:=top 6
theorem zH:cg (["_law_script","_law_k","_law_cell"]:List Str) (["_law_script","_law_k"]:List Str) (aC qT):=⟨rfl,rfl,rfl,by decide +kernel,rfl,by decide +kernel,by decide +kernel⟩
noncomputable abbrev mQ:Stmt:=top 7
theorem vz:cg (["_law_box_here","_law_many_here","_law_found","_law_once"]:List Str) (["_law_box_here","_law_many_here"]:List Str) (aC mQ):=⟨rfl,rfl,rfl,by decide +kernel,rfl,by decide +kernel,by decide +kernel⟩
noncomputable abbrev eO:Stmt:=top 8
theorem fK:cg (["_law_box_here","_law_many_here","_law_letters","_law_found","_law_k","_law_size","_law_name"]:List Str) (["_law_box_here","_law_many_here"]:List Str) (aC eO):=⟨rfl,rfl,rfl,by decide +kernel,rfl,by decide +kernel,by decide +kernel⟩
noncomputable abbrev qU:Stmt:=top 9
theorem Hr:cg (["_law_box_here","_law_way"]:List Str) (["_law_box_here"]:List Str) (aC qU):=⟨rfl,rfl,rfl,by decide +kernel,rfl,by decide +kernel,by decide +kernel⟩
noncomputable abbrev qW:Stmt:=top 10
theorem QV:cg (["_law_box_here"]:List Str) (["_law_box_here"]:List Str) (aC qW):=⟨rfl,rfl,rfl,by decide +kernel,rfl,by decide +kernel,by decide +kernel⟩
noncomputable abbrev fL:Stmt:=top 11
theorem gb:cg (["_law_box_here","_law_many_here","_law_found","_law_next_one","_law_k"]:List Str) (["_law_box_here","_law_many_here"]:List Str) (aC fL):=⟨rfl,rfl,rfl,by decide +kernel,rfl,by decide +kernel,by decide +kernel⟩
noncomputable abbrev mR:Stmt:=top 12
theorem M6:cg (["_law_box_here","_law_most"]:List Str) (["_law_box_here","_law_most"]:List Str) (aC mR):=⟨rfl,rfl,rfl,by decide +kernel,rfl,by decide +kernel,by decide +kernel⟩
noncomputable abbrev g8:Stmt:=top 13
theorem qX:cg (["_law_box_here","_law_names_here","_law_rows","_law_k"]:List Str) (["_law_box_here","_law_names_here"]:List Str) (aC g8):=⟨rfl,rfl,rfl,by decide +kernel,rfl,by decide +kernel,by decide +kernel⟩
noncomputable abbrev gf:Stmt:=top 14
theorem bN:cg (["_law_box_here","_law_names_here","_law_parts_here","_law_own","_law_ranks","_law_leaves","_law_rules","_law_number","_law_days","_law_who","_law_where","_law_at","_law_taker","_law_k","_law_key","_law_seats","_law_j","_law_part","_law_rows"]:List Str) (["_law_box_here","_law_names_here"]:List Str) (aC gf):=⟨rfl,rfl,rfl,by decide +kernel,rfl,by decide +kernel,by decide +kernel⟩
noncomputable abbrev iK:Stmt:=top 15
theorem M7:cg (["_law_found","_law_due"]:List Str) (["_law_found","_law_due"]:List Str) (aC iK):=⟨rfl,rfl,rfl,by decide +kernel,rfl,by decide +kernel,by decide +kernel⟩
noncomputable abbrev mU:Stmt:=top 16
theorem pQ:cg (["_law_parts_here","_law_found","_law_part","_law_within"]:List Str) (["_law_parts_here"]:List Str) (aC mU):=⟨rfl,rfl,rfl,by decide +kernel,rfl,by decide +kernel,by decide +kernel⟩
noncomputable abbrev eU:Stmt:=top 17
theorem d8:cg (["_law_house_here","_law_over_here","_law_part","_law_day_here","_law_twice","_law_last","_law_rank","_law_some","_law_due","_law_turn","_law_found"]:List Str) (["_law_house_here","_law_over_here","_law_part","_law_day_here","_law_twice"]:List Str) (aC eU):=⟨rfl,rfl,rfl,by decide +kernel,rfl,by decide +kernel,by decide +kernel⟩
noncomputable abbrev pR:Stmt:=top 18
theorem ie:cg (["_law_script","_law_k","_law_box_here","_law_names_here","_law_parts_here","_law_house_here","_law_kept","_law_over_here","_law_days","_law_row","_law_day_here","_law_part"]:List Str) (["_law_script"]:List Str) (aC pR):=⟨rfl,rfl,rfl,by decide +kernel,rfl,by decide +kernel,by decide +kernel⟩
structure Txt (K:PySem.W.Frag) (mg:Str→Option Value):Prop where
 xZ:mg "abs"=none
 yc:mg "all"=none
 nZ:mg "bool"=none
 vA:mg "int"=none
 bu:mg "isinstance"=none
 ir:mg "len"=none
 n6:mg "list"=none
 vB:mg "max"=none
 ye:mg "min"=none
 dB:mg "range"=none
 qY:mg "repr"=none
 yf:mg "set"=none
 dm:mg "sorted"=none
 yg:mg "str"=none
 dU:mg "tuple"=none
 Ca:mg "zip"=none
@[reducible] noncomputable def j0:FT:=(fTst (aG yX (aF 1) (aF 2)))
@[reducible] noncomputable def j4:FS:=(fSeq (j8 3 (fVar 1)) (fSet 1 (aG bf (aF 2) (aF 1))))
@[reducible] noncomputable def gm:FE:=(fVar 0)
@[reducible] noncomputable def gn:FE:=(fVar 1)
@[reducible] noncomputable def jN:FS:=(fSeq (fSet 2 (Xa (iB2 (az (aG bf (aF 0) (az (fCst (.int 0)))))) (.many 2) fY gm gn [])) (fSeq (fSet 3 (fLst aNil)) (fSeq (Zi j0 j4) (fRetV 3))))
noncomputable def eV:FN:=fN 2 4 jN
@[reducible] noncomputable def jO:FT:=(jY (fTst (aG o6 (aF 1) (aF 6))) (jY (fTst (aG yX (aF 3) (aF 7))) (fTst (Je yU yU (aF 4) (aF 8) (aF 5)))))
@[reducible] noncomputable def jP:FE:=(fVar 2)
@[reducible] noncomputable def qZ:FS:=(fSeq (fSet 4 (fCal eV (aCons (fVar 0) (aCons (fVar 2) aNil)))) (fSeq (fSet 5 (fLC (iB2 (az (aG bf (aF 0) (az (fCst (.int 1)))))) (.many 6) jO jP [1,4,3])) (fRet (G4 (aF 5) (az (fCst (.int 0)))))))
noncomputable def jy:FN:=fN 4 6 qZ
@[reducible] noncomputable def j5:FT:=(fTst (aG Ja (az (fCal jy (aCons (fVar 1) (aCons (fVar 0) (aCons (fVar 2) (aCons (fVar 3) aNil)))))) (aF 4)))
@[reducible] noncomputable def j6:FE:=(fVar 0)
@[reducible] noncomputable def gq:FE:=(aG bf (aF 0) (az (fCst (.int 1))))
@[reducible] noncomputable def jQ:FS:=(fSeq (fSet 4 (Xf (iB (az (aG bf (aF 0) (az (fCst (.int 1)))))) .one fY gq [])) (fRet (fLC (iB (aF 4)) .one j5 j6 [0,2,3,1])))
noncomputable def eX:FN:=fN 4 5 jQ
@[reducible] noncomputable def Ej:FS:=(fSeq (fSet 2 (fCst (.int 0))) (fSeq (j7 (fTst (aG Lb (aF 1) (az (rN 0)))) (fSet 2 (Mh 0 (aF 1))) fNext) (fRet (fLst (aCons (aG lB (az (fFun Bm (bCons (aF 2) bNil))) (az (fFun xx (bCons (az (aG Ja (az (fFun Bm (bCons (aF 2) bNil))) (az (aG mZ (az (fCst (.int 10))) (az (fCst (.int 18))))))) bNil)))) (aCons (aG bH (az (aG bH (az (aG jX (aF 2) (az (fCst (.int 2147483629))))) (az (aG lB (az (fCst (.int 7919))) (aF 1))))) (az (fCst (.int 11)))) (aCons (fCst (.int 0)) aNil)))))))
noncomputable def vC:FN:=fN 2 3 Ej
@[reducible] noncomputable def tQ:FS:=(fSeq (j7 (fTst (aG PL (az (uV 0 (az (fCst (.int 0))))) (az (fCst (.int 0))))) (fSeq (fSet 2 (aG jX (az (uV 0 (az (fCst (.int 0))))) (aF 1))) (fSeq (wj 0 (az (fCst (.int 0))) (aG qC (az (uV 0 (az (fCst (.int 0))))) (aF 1))) (fRetV 2))) fNext) (fSeq (wj 0 (az (fCst (.int 2))) (aG bH (az (uV 0 (az (fCst (.int 2))))) (az (fCst (.int 1))))) (fSeq (fSet 3 (aG jX (az (aG mZ (az (aG bH (az (uV 0 (az (fCst (.int 1))))) (az (aG lB (az (fCst (.int 39373))) (az (uV 0 (az (fCst (.int 2))))))))) (az (fCst (.int 5))))) (az (fCst (.int 2147483647))))) (fRet (aG jX (az (aG qC (az (aG jX (az (aG bH (az (aG lB (aF 3) (az (aG bH (az (aG jX (aF 3) (az (fCst (.int 40009))))) (az (fCst (.int 7))))))) (az (aG lB (az (uV 0 (az (fCst (.int 2))))) (az (fCst (.int 7919))))))) (az (fCst (.int 2147483629))))) (az (fCst (.int 64))))) (aF 1))))))
noncomputable def aJ:FN:=fN 2 4 tQ
@[reducible] noncomputable def rW:FE:=(aG bH (az (U8 (aF 1) Vx (U7 (az (fCst (.int 7)))))) (aF 0))
@[reducible] noncomputable def rY:FT:=(fTst (aG o8 (aF 0) (aF 1)))
@[reducible] noncomputable def rZ:FE:=(fVar 0)
@[reducible] noncomputable def lR:FE:=(aG bf (aF 1) (az (fCal aJ (aCons (fVar 2) (aCons (fCst (.int 26)) aNil)))))
@[reducible] noncomputable def iM:FS:=(fSeq (fSet 5 (aG bf (az (fLst (aCons (fCst (.int 1)) (aCons (fCst (.int 8)) (aCons (fCst (.int 2)) aNil))))) (az (fCal aJ (aCons (fVar 0) (aCons (fCst (.int 3)) aNil)))))) (fSeq (fSet 6 (G5 (az (fCst (.str (Str.ofString "")))) (az (fLC (zR (aF 5)) .one fY lR [2,0])))) (fSeq (j7 (jY (fTst (aG o6 (az (fCal aJ (aCons (fVar 0) (aCons (fCst (.int 3)) aNil)))) (az (fCst (.int 0))))) (fTst (aG sS (aF 3) (az (fLst aNil))))) (fSet 6 (aG bH (az (U8 (az (aG bf (aF 3) (az (fCal aJ (aCons (fVar 0) (aCons (fFun iI (bCons (aF 3) bNil)) aNil)))))) Vx (U7 (az (fCst (.int 7)))))) (az (aG bf (aF 2) (az (fCal aJ (aCons (fVar 0) (aCons (fCst (.int 26)) aNil)))))))) fNext) (j8 3 (aG bf (az (fLC (iB (az (aG bH (az (fLst (aCons (fVar 6) aNil))) (az (fLC (iB (aF 2)) .one fY rW [6]))))) .one rY rZ [3])) (az (fCst (.int 0))))))))
@[reducible] noncomputable def vD:FS:=(fSeq (fSet 2 (fCst (.str (Str.ofString "abcdefghijklmnopqrstuvwxyz")))) (fSeq (fSet 3 (fLst aNil)) (fSeq (fD (zR (aF 1)) (gNm 4) iM) (fRetV 3))))
noncomputable def lU:FN:=fN 2 7 vD
@[reducible] noncomputable def Ek:FS:=(fSeq (fSet 1 (aG bf (az (fLst (aCons (fCst (.int 0)) (aCons (fCst (.int 0)) (aCons (fCst (.int 0)) (aCons (fCst (.int 1)) (aCons (fCst (.int 1)) (aCons (fCst (.int 2)) aNil)))))))) (az (fCal aJ (aCons (fVar 0) (aCons (fCst (.int 6)) aNil)))))) (fRet (aG bf (az (fLst (aCons (fCal aJ (aCons (fVar 0) (aCons (fCst (.int 12)) aNil))) (aCons (fCal aJ (aCons (fVar 0) (aCons (fCst (.int 40)) aNil))) (aCons (aG xm (az (fCst (.int 99999))) (az (fCal aJ (aCons (fVar 0) (aCons (fCst (.int 99999)) aNil))))) aNil))))) (aF 1))))
noncomputable def jk:FN:=fN 1 2 Ek
@[reducible] noncomputable def El:FS:=(fRet (aG bf (az (fLst (aCons (fCal aJ (aCons (fVar 0) (aCons (fCst (.int 9)) aNil))) (aCons (aG lB (az (fCst (.int 10))) (az (fCal aJ (aCons (fVar 0) (aCons (fCst (.int 20)) aNil))))) (aCons (aG xm (az (aG mZ (az (fCst (.int 10))) (az (fCst (.int 9))))) (az (fCal aJ (aCons (fVar 0) (aCons (fCst (.int 3)) aNil))))) aNil))))) (az (aG bf (az (fLst (aCons (fCst (.int 0)) (aCons (fCst (.int 1)) (aCons (fCst (.int 1)) (aCons (fCst (.int 1)) (aCons (fCst (.int 2)) aNil))))))) (az (fCal aJ (aCons (fVar 0) (aCons (fCst (.int 5)) aNil))))))))
noncomputable def q9:FN:=fN 1 1 El
@[reducible] noncomputable def jl:FS:=(fSeq (fSet 3 (aG bH (aF 3) (az (aG bf (az (fLst (aCons (fCst (.int 0)) (aCons (fCst (.int 0)) (aCons (aG bH (az (fCst (.int 1))) (az (fCal aJ (aCons (fVar 0) (aCons (fCst (.int 9)) aNil))))) aNil))))) (az (fCal aJ (aCons (fVar 0) (aCons (fCst (.int 3)) aNil)))))))) (fSeq (j8 2 (fVar 3)) (fSet 3 (aG bH (aF 3) (az (fCst (.int 1)))))))
@[reducible] noncomputable def oh:FS:=(fSeq (fPar [2,3] (oCons (fLst aNil) (oCons (fCst (.int 0)) aNil))) (fSeq (fD (zR (aF 1)) (gNm 4) jl) (fRetV 2)))
noncomputable def fM:FN:=fN 2 5 oh
@[reducible] noncomputable def tR:FS:=(fRet (Lk (fTst (aG o6 (az (fCal aJ (aCons (fVar 0) (aCons (fCst (.int 3)) aNil)))) (az (fCst (.int 0))))) (fVar 1) (fCal aJ (aCons (fVar 0) (aCons (aG bH (aF 1) (az (fCst (.int 1)))) aNil)))))
noncomputable def fU:FN:=fN 2 2 tR
@[reducible] noncomputable def sr:FE:=(aG bf (aF 0) (az (fCst (.int 0))))
@[reducible] noncomputable def lV:FS:=(j8 2 (fTup (aCons (aG bf (aF 1) (aF 3)) (aCons (aG bf (az (aG bH (az (fLst (aCons (fCst (.str (Str.ofString ""))) aNil))) (az (fLC (iB (aF 2)) .one fY sr [])))) (az (fCal aJ (aCons (fVar 0) (aCons (aG bH (aF 3) (az (fCst (.int 1)))) aNil))))) aNil))))
@[reducible] noncomputable def vG:FS:=(fSeq (fSet 2 (fLst aNil)) (fSeq (fD (zR (az (fFun qK (bCons (az (fCst (.int 1))) (bCons (az (fCal fU (aCons (fVar 0) (aCons (fCst (.int 8)) aNil)))) bNil))))) (gNm 3) lV) (fRetV 2)))
noncomputable def lW:FN:=fN 2 4 vG
@[reducible] noncomputable def iQ:FE:=(aG bH (aF 0) (az (fTup (aCons (aG bf (aF 1) (aF 0)) aNil))))
@[reducible] noncomputable def lX:FS:=(fSeq (fSet 17 (aG bf (az (aG bH (az (fLst (aCons (fCst (.str (Str.ofString ""))) (aCons (fCst (.str (Str.ofString ""))) aNil)))) (aF 3))) (az (fCal aJ (aCons (fVar 0) (aCons (aG bH (az (fCst (.int 2))) (az (fFun iI (bCons (aF 3) bNil)))) aNil)))))) (j8 15 (fTup (aCons (aG bH (az (fCst (.int 1))) (az (fCal aJ (aCons (fVar 0) (aCons (aG bf (az (fLst (aCons (fCst (.int 9)) (aCons (fCst (.int 3)) aNil)))) (az (fCal aJ (aCons (fVar 0) (aCons (fCst (.int 2)) aNil))))) aNil))))) (aCons (fVar 17) aNil)))))
@[reducible] noncomputable def iR:FS:=(fSeq (fPar [14,15] (oCons (fTup (aCons (aG bf (aF 3) (az (fCal aJ (aCons (fVar 0) (aCons (fFun iI (bCons (aF 3) bNil)) aNil))))) (aCons (fCal q9 (aCons (fVar 0) aNil)) aNil))) (oCons (fLst aNil) aNil))) (fSeq (fD (zR (az (fCal fU (aCons (fVar 0) (aCons (fCst (.int 6)) aNil))))) (gNm 16) lX) (wj 6 (aF 14) (fFun gK (bCons (aF 15) bNil)))))
@[reducible] noncomputable def iT:FS:=(fSeq (fPar [8,11] (oCons (fFun cX (bCons (az (fLst (aCons (fCal jk (aCons (fVar 0) aNil)) (aCons (fCal jk (aCons (fVar 0) aNil)) aNil)))) bNil)) (oCons (fCal aJ (aCons (fVar 0) (aCons (fCst (.int 9)) aNil))) aNil))) (fSeq (fPar [12,10] (oCons (aG bf (aF 1) (az (aG jX (az (aG bH (az (aG bH (aF 11) (az (fCst (.int 1))))) (az (fCal aJ (aCons (fVar 0) (aCons (fCst (.int 8)) aNil)))))) (az (fCst (.int 9)))))) (oCons (aG bf (aF 3) (az (fCal aJ (aCons (fVar 0) (aCons (fFun iI (bCons (aF 3) bNil)) aNil))))) aNil))) (j8 5 (fTup (aCons (fVar 7) (aCons (aG bf (aF 1) (aF 11)) (aCons (fVar 12) (aCons (fVar 10) (aCons (aG bf (aF 8) (az (fCst (.int 0)))) (aCons (aG bf (aF 8) (az (fCst (.int 1)))) (aCons (fCal q9 (aCons (fVar 0) aNil)) aNil)))))))))))
@[reducible] noncomputable def iU:FS:=(fSeq (fSet 8 (fFun cX (bCons (az (fLst (aCons (fCal jk (aCons (fVar 0) aNil)) (aCons (fCal jk (aCons (fVar 0) aNil)) aNil)))) bNil))) (fSeq (fPar [9,10] (oCons (aG bf (aF 1) (az (fCal aJ (aCons (fVar 0) (aCons (fCst (.int 9)) aNil))))) (oCons (aG bf (aF 3) (az (fCal aJ (aCons (fVar 0) (aCons (fFun iI (bCons (aF 3) bNil)) aNil))))) aNil))) (j8 4 (fTup (aCons (fVar 7) (aCons (fVar 9) (aCons (aG bH (az (fCst (.int 1))) (az (fCal aJ (aCons (fVar 0) (aCons (aG bf (az (fLst (aCons (fCst (.int 9)) (aCons (fCst (.int 3)) aNil)))) (az (fCal aJ (aCons (fVar 0) (aCons (fCst (.int 2)) aNil))))) aNil))))) (aCons (fVar 10) (aCons (aG bf (aF 8) (az (fCst (.int 0)))) (aCons (aG bf (aF 8) (az (fCst (.int 1)))) aNil))))))))))
@[reducible] noncomputable def su:FE:=(aG bf (aF 0) (az (fCst (.int 0))))
@[reducible] noncomputable def vH:FS:=(fSeq (fSet 2 (fCal lW (aCons (fVar 0) (aCons (fVar 1) aNil)))) (fSeq (fPar [3,4,5,6] (oCons (fLC (iB (aF 2)) .one fY su []) (oCons (fLst aNil) (oCons (fLst aNil) (oCons uI aNil))))) (fSeq (fD (iV (fCal fM (aCons (fVar 0) (aCons (fCal fU (aCons (fVar 0) (aCons (fCst (.int 20)) aNil))) aNil)))) (gNm 7) iU) (fSeq (fD (iV (fCal fM (aCons (fVar 0) (aCons (fCal fU (aCons (fVar 0) (aCons (fCst (.int 16)) aNil))) aNil)))) (gNm 7) iT) (fSeq (fD (zR (az (fCal fU (aCons (fVar 0) (aCons (fCst (.int 10)) aNil))))) (gNm 13) iR) (fSeq (fSet 18 (fLC (iB (az (fFun cX (bCons (aF 6) bNil)))) .one fY iQ [6])) (fRet (fTup (aCons (fVar 2) (aCons (fTup (aCons (fFun gK (bCons (az (fFun cX (bCons (aF 2) bNil))) bNil)) (aCons (fFun gK (bCons (aF 4) bNil)) (aCons (fFun gK (bCons (aF 5) bNil)) (aCons (fFun gK (bCons (aF 18) bNil)) aNil))))) aNil))))))))))
noncomputable def lY:FN:=fN 2 19 vH
@[reducible] noncomputable def vI (zJ:FN):FE:=(fCal zJ (aCons (fVar 0) (aCons (fVar 1) aNil)))
@[reducible] noncomputable def tU (zJ:FN):FS:=(fSeq (j7 (fTst (aG xu (aF 1) (az (fCst .none)))) (fRet (aG xu (aF 0) (az (fCst .none)))) fNext) (fSeq (j7 (fTru (az (pF "bool" (aF 1)))) (fRet (o9 (pF "bool" (aF 0)) (aG o6 (aF 0) (aF 1)))) fNext) (fSeq (j7 (fTru (az (Bp "list" "tuple" (aF 1)))) (fSeq (j7 (Jd (fTst (aG sS (az (pF "list" (aF 0))) (az (pF "list" (aF 1))))) (fTst (aG sS (az (pF "tuple" (aF 0))) (az (pF "tuple" (aF 1)))))) (fRet (fCst (.bool false))) fNext) (fRet (o9 (aG o6 (az (fFun iI (bCons (aF 0) bNil))) (az (fFun iI (bCons (aF 1) bNil)))) (fFun xG (bCons (az (fLC (X7 (bCons (aF 0) (bCons (aF 1) bNil))) (.many 2) fY (vI zJ) [])) bNil))))) fNext) (fSeq (j7 (fTru (az (pF "str" (aF 1)))) (fRet (o9 (pF "str" (aF 0)) (aG o6 (aF 0) (aF 1)))) fNext) (fRet (o9 (pF "int" (aF 0)) (o9 (Lj (pF "bool" (aF 0))) (aG o6 (aF 0) (aF 1)))))))))
noncomputable def eY:Nat→FN
 | 0=>My
 | n + 1=>fN 2 2 (tU (eY n))
@[reducible] noncomputable def ou:FS:=(wj 1 (aF 2) (aG bH (az (fLst (aCons (fVar 2) aNil))) (az (Bs (aF 1) (aF 3) (fLst aNil)))))
@[reducible] noncomputable def zK:FS:=(fSeq (fSet 1 uI) (fSeq (fD (iV2 (fVar 0)) (gTp 2 (gsCons (gNm 2) (gsCons (gNm 3) gsNil))) ou) (fRetV 1)))
noncomputable def pU:FN:=fN 1 4 zK
@[reducible] noncomputable def lZ:FE:=(aG yX (aF 0) (aF 1))
@[reducible] noncomputable def iW:FS:=(fSeq (fSet 10 (fCal eX (aCons (fVar 0) (aCons (fVar 6) (aCons (fVar 2) (aCons (fVar 3) aNil)))))) (fSeq (j7 (uF (fTru (az (fCal (eY 3) (aCons (fVar 10) (aCons (fVar 8) aNil)))))) (fRet (fCst (.bool false))) fNext) (fSeq (j8 10 (fCst (.str (Str.ofString "zz")))) (QG 10))))
@[reducible] noncomputable def mj:FT:=(fTst (aG yX (az (aG bf (aF 0) (az (fCst (.int 3))))) (az (Bs (aF 1) (aF 2) (fLst aNil)))))
@[reducible] noncomputable def sy:FE:=(aG bf (aF 0) (az (fCst (.int 1))))
@[reducible] noncomputable def sE:FT:=(jY (fTst (aG Ja (az (aG bf (aF 0) (az (fCst (.int 2))))) (aF 1))) (jY (fTst (aG yU (az (aG bf (aF 0) (az (fCst (.int 4))))) (aF 2))) (fTst (aG yU (aF 2) (az (aG bf (aF 0) (az (fCst (.int 5)))))))))
@[reducible] noncomputable def sG:FE:=(fVar 0)
@[reducible] noncomputable def iY:FS:=(fSeq (fSet 7 (fLC (iB (az (aG bf (aF 0) (az (fCst (.int 1)))))) .one sE sG [6,3])) (fSeq (fSet 8 (G3 (az (fLC (iB (aF 7)) .one mj sy [1,2])))) (fSeq (fD (zR (az (aG bH (az (fCst (.int 1))) (az (fFun xx (bCons (az (aG o6 (aF 6) (aF 4))) bNil)))))) (gNm 9) iW) (fSeq (j7 (jY (fTst (aG yW (aF 5) (az (fCst .none)))) (uF (fTru (az (fFun xG (bCons (az (fLC (iB (aF 5)) .one fY lZ [8])) bNil)))))) (fRet (fCst (.bool false))) fNext) (fSet 5 (fVar 8))))))
@[reducible] noncomputable def vJ:FS:=(fSeq (fSet 5 (fCst .none)) (fSeq (fD (QF (az (fCst (.int 9))) (az (fCst (.int 0))) (az (fNeg (az (fCst (.int 1)))))) (gNm 6) iY) (fRet (fCst (.bool true)))))
noncomputable def mq:FN:=fN 5 11 vJ
@[reducible] noncomputable def pW:FS:=(j7 (uF (fTru (az (fCal mq (aCons (fVar 5) (aCons (fVar 7) (aCons (fVar 11) (aCons (fVar 10) (aCons (aG bH (az (fCst (.int 1))) (az (fCal aJ (aCons (fVar 2) (aCons (fCst (.int 9)) aNil))))) aNil))))))))) (fRet (fCst (.bool false))) fNext)
@[reducible] noncomputable def mC:FS:=(fD (iV (fLst (aCons (aG bf (az (aG bf (aF 4) (az (fCal aJ (aCons (fVar 2) (aCons (fFun iI (bCons (aF 4) bNil)) aNil)))))) (az (fCst (.int 0)))) (aCons (aG bf (az (aG bf (aF 4) (az (fNeg (az (fCst (.int 1))))))) (az (fCst (.int 0)))) (aCons (fCst (.str (Str.ofString "qqqqqqqq"))) aNil))))) (gNm 11) pW)
@[reducible] noncomputable def pX:FS:=(fSeq (Lx 2 (fCal vC (aCons (fVar 0) (aCons (fVar 1) aNil)))) (fSeq (fSet 3 (fCal lU (aCons (fVar 2) (aCons (fCst (.int 9)) aNil)))) (fSeq (fUnp (fCal lY (aCons (fVar 2) (aCons (fVar 3) aNil))) (gTp 2 (gsCons (gNm 4) (gsCons (gNm 5) gsNil)))) (fSeq (fPar [6,7] (oCons (fFun qM (bCons (aF 5) bNil)) (oCons (fCal pU (aCons (fVar 4) aNil)) aNil))) (fSeq (fSet 8 (fLst (aCons (fCal jk (aCons (fVar 2) aNil)) aNil))) (fSeq (fSet 9 (aG bf (az (aG bH (az (aG bf (aF 5) (az (fCst (.int 1))))) (az (fTup (aCons (fTup (aCons (fCst (.int 0)) (aCons (fCst (.str (Str.ofString ""))) (aCons (fCst (.int 0)) (aCons (fCst (.str (Str.ofString ""))) (aCons (fCst (.int 3)) (aCons (fCst (.int 7)) aNil))))))) aNil))))) (az (fCal aJ (aCons (fVar 2) (aCons (aG bH (az (fFun iI (bCons (az (aG bf (aF 5) (az (fCst (.int 1))))) bNil))) (az (fCst (.int 1)))) aNil)))))) (fSeq (fD (iV (GZ (az (aG bH (aF 8) (az (fLst (aCons (aG bf (aF 9) (az (fCst (.int 4)))) (aCons (aG bf (aF 9) (az (fCst (.int 5)))) (aCons (fFun qK (bCons (az (fCst (.int 0))) (bCons (az (aG xm (az (aG bf (aF 9) (az (fCst (.int 4))))) (az (fCst (.int 1))))) bNil))) (aCons (fFun qL (bCons (az (fCst (.int 99999))) (bCons (az (aG bH (az (aG bf (aF 9) (az (fCst (.int 5))))) (az (fCst (.int 1))))) bNil))) aNil)))))))))) (gNm 10) mC) (j7 (fTst (aG sS (az (fFun qM (bCons (aF 5) bNil))) (aF 6))) (fRet (fCst (.bool false))) fNext))))))))
@[reducible] noncomputable def M9:FS:=(fSeq (fD (zR (az (aG bH (az (fCst (.int 1))) (az (fFun qL (bCons (az (fCst (.int 5))) (bCons (az (rN 0)) bNil))))))) (gNm 1) pX) (fRet (fCst (.bool true))))
noncomputable def yh:FN:=fN 1 12 M9
theorem wC {P:Program} {w:World} {K:PySem.W.Frag} {mg:Str→Option Value} {base:Heap} {f:Addr} {fd:FuncData} (F:ue K "parts_over" "parts_over" cW f fd) (T:Txt K mg):dD P w K mg base rD 1 f fd (["house","part"]:List Str) (spT K eV):=
 gB (body:=jN) F fQ fun cdv A outer s H E hr=>(aD (Mt (i:=2) (T:=(.many 2)) (NT:=(["name","within"]:List Str)) (NF:=([]:List Str)) (js:=[]) (oV.ok (N0:=(["house","part","outer","over"]:List Str)) (yI:=aC cW) (by decide +kernel) rfl rfl) (⟨_,_,_,rfl,(.cons ⟨_,rfl⟩ (.cons ⟨_,rfl⟩ .nil)),rfl⟩) rfl hr.aH (Sd (aj (bA (aQ hr.aH) bB (aq (pv 0)) (aj (ao au)) (fun _ _=>rfl)))) (fun b=>⟨gJ,(aB (pv 0)),(aB (pv 1))⟩) (by rfl) fQ.nd rfl rfl) (aD (bY (i:=3) fQ.nd rfl (Or.inl rfl) (bW aA)) (aD (Lz PassesOwn.never (cU (yZ hr.aH) Gs (aq (pv 1)) (aq (pv 2)) (by with_unfolding_all rfl)) (aD (lG (pv 3) (aB (pv 1))) (aX (bY (i:=1) fQ.nd rfl (Or.inl rfl) (bA (aQ hr.aH) bB (aq (pv 2)) (aq (pv 1)) (fun _ _=>rfl)))))) (aX (mL (pv 3))))))
theorem Em {P:Program} {w:World} {K:PySem.W.Frag} {mg:Str→Option Value} {base:Heap} {f:Addr} {fd:FuncData} (F:ue K "rank_of" "rank_of" fJ f fd) (T:Txt K mg) (jR:jc P w K mg base "parts_over" 1 (["house","part"]:List Str) (spT K eV)):dD P w K mg base rD 2 f fd (["house","person","part","day"]:List Str) (spT K jy):=
 gB (body:=qZ) F nY fun cdv A outer s H E hr=>(aD (bY (i:=4) nY.nd rfl (Or.inr rfl) (aW jR (hr.mono (by decide)) rfl (aa (aB (pv 0)) (aa (aB (pv 2)) aA)))) (aD (uL (i:=5) (T:=(.many 6)) (NT:=(["number","who","rank","where","first","last"]:List Str)) (NF:=(["person","over","day"]:List Str)) (js:=[1,4,3]) (oV.ok (N0:=(["house","person","part","day","over","held"]:List Str)) (yI:=aC fJ) (by decide +kernel) rfl rfl) (⟨_,_,_,rfl,(.cons ⟨_,rfl⟩ (.cons ⟨_,rfl⟩ (.cons ⟨_,rfl⟩ (.cons ⟨_,rfl⟩ (.cons ⟨_,rfl⟩ (.cons ⟨_,rfl⟩ .nil)))))),rfl⟩) rfl (Sd (aj (bA (aQ hr.aH) bB (aq (pv 0)) (aj (ao au)) (fun _ _=>rfl)))) (fun b=>⟨(pC (PW.pt (qH (cU (lC hr.units) rM (aq (pv 1)) (aq (pv 6)) (cC _)) (qH (cU (yZ hr.aH) Gs (aq (pv 3)) (aq (pv 7)) (by with_unfolding_all rfl)) (tG (Uy yV Gn yV Gn (aq (pv 4)) (aq (pv 8)) (aq (pv 5)))))))),(aB (pv 2))⟩) (by rfl) nY.nd rfl rfl) (aX (cP (Qo rfl (aq (pv 5)) (aj (ao au)) rfl T.vB)))))
theorem wD {P:Program} {w:World} {K:PySem.W.Frag} {mg:Str→Option Value} {base:Heap} {f:Addr} {fd:FuncData} (F:ue K "holders_of" "holders_of" cH f fd) (T:Txt K mg) (rm:jc P w K mg base "rank_of" 2 (["house","person","part","day"]:List Str) (spT K jy)):dD P w K mg base rD 3 f fd (["house","rank","part","day"]:List Str) (spT K eX):=
 gB (body:=jQ) F nq fun cdv A outer s H E hr=>(aD (bY (i:=4) nq.nd rfl (Or.inl rfl) (Xg (T:=.one) (NT:=(["row"]:List Str)) (NF:=([]:List Str)) (js:=[]) (oV.ok (N0:=(["house","rank","part","day","people"]:List Str)) (yI:=aC cH) (by decide +kernel) rfl rfl) (⟨_,⟨_,rfl⟩,rfl⟩) rfl rfl T.dm (wz (aj (bA (aQ hr.aH) bB (aq (pv 0)) (aj (ao au)) (fun _ _=>rfl)))) (fun b=>⟨gJ,(bA (aQ hr.aH) bB (aq (pv 0)) (aj (ao au)) (fun _ _=>rfl))⟩))) (aX (cP (pD (T:=.one) (NT:=(["person"]:List Str)) (NF:=(["house","part","day","rank"]:List Str)) (js:=[0,2,3,1]) (oV.ok (N0:=(["house","rank","part","day","people"]:List Str)) (yI:=aC cH) (by decide +kernel) rfl rfl) (⟨_,⟨_,rfl⟩,rfl⟩) rfl (wz (aq (pv 4))) (fun b=>⟨(pC (cU J0 Ld (aj (aW rm (hr.mono (by decide)) rfl (aa (aB (pv 1)) (aa (aB (pv 0)) (aa (aB (pv 2)) (aa (aB (pv 3)) aA)))))) (aq (pv 4)) (cC _))),(aB (pv 0))⟩)))))
theorem QW {P:Program} {w:World} {K:PySem.W.Frag} {mg:Str→Option Value} {base:Heap} {f:Addr} {fd:FuncData} (F:ue K "_law_box" "_law_box" qT f fd) (T:Txt K mg):dD P w K mg base rD 1 f fd (["_law_script","_law_k"]:List Str) (spT K vC):=
 gB (body:=Ej) F zH fun cdv A outer s H E hr=>(aD (bY (i:=2) zH.nd rfl (Or.inl rfl) (ao au)) (aD (jZ (cU (Dm hr.TF) WM (aq (pv 1)) (aj (GK (pv 0) rfl T.ir (by decide +kernel))) (cC _)) (aX (bY (i:=2) zH.nd rfl (Or.inl rfl) (U6 (pv 0) (aq (pv 1)) (fun _ _=>rfl)))) gk) (aX (cP (bW (aa (aP qj qD (aj (bF zW Mi rfl T.xZ (by decide +kernel) (aM (aq (pv 2)) aZ))) (aj (gW wJ Mj rfl T.vA (by decide +kernel) (aM (aj (lA J0 Ld (aj (bF zW Mi rfl T.xZ (by decide +kernel) (aM (aq (pv 2)) aZ))) (aj (aP Cv Dz (aj (ao au)) (aj (ao au)))) (cC _))) aZ)))) (aa (aP bw bQ (aj (aP bw bQ (aj (aP nu nH (aq (pv 2)) (aj (ao au)))) (aj (aP qj qD (aj (ao au)) (aq (pv 1)))))) (aj (ao au))) (aa (ao au) aA))))))))
theorem Nb {P:Program} {w:World} {K:PySem.W.Frag} {mg:Str→Option Value} {base:Heap} {f:Addr} {fd:FuncData} (F:ue K "_law_take" "_law_take" mQ f fd) (T:Txt K mg):dD P w K mg base rD 1 f fd (["_law_box_here","_law_many_here"]:List Str) (spT K aJ):=
 gB (body:=tQ) F vz fun cdv A outer s H E hr=>(aD (jZ (cU Wa WQ (aj (nO (pv 0) (aj (ao au)) (fun _ _=>rfl))) (aj (ao au)) (cC _)) (aD (bY (i:=2) vz.nd rfl (Or.inl rfl) (aP nu nH (aj (nO (pv 0) (aj (ao au)) (fun _ _=>rfl))) (aq (pv 1)))) (aD (zg hr.aH (pv 0) (aj (ao au)) (aP Fe Gk (aj (nO (pv 0) (aj (ao au)) (fun _ _=>rfl))) (aq (pv 1)))) (aX (mL (pv 2))))) gk) (aD (zg hr.aH (pv 0) (aj (ao au)) (aP bw bQ (aj (nO (pv 0) (aj (ao au)) (fun _ _=>rfl))) (aj (ao au)))) (aD (bY (i:=3) vz.nd rfl (Or.inl rfl) (aP nu nH (aj (aP Cv Dz (aj (aP bw bQ (aj (nO (pv 0) (aj (ao au)) (fun _ _=>rfl))) (aj (aP qj qD (aj (ao au)) (aj (nO (pv 0) (aj (ao au)) (fun _ _=>rfl))))))) (aj (ao au)))) (aj (ao au)))) (aX (cP (aP nu nH (aj (aP Fe Gk (aj (aP nu nH (aj (aP bw bQ (aj (aP qj qD (aq (pv 3)) (aj (aP bw bQ (aj (aP nu nH (aq (pv 3)) (aj (ao au)))) (aj (ao au)))))) (aj (aP qj qD (aj (nO (pv 0) (aj (ao au)) (fun _ _=>rfl))) (aj (ao au)))))) (aj (ao au)))) (aj (ao au)))) (aq (pv 1))))))))
theorem Jw {P:Program} {w:World} {K:PySem.W.Frag} {mg:Str→Option Value} {base:Heap} {f:Addr} {fd:FuncData} (F:ue K "_law_names" "_law_names" eO f fd) (T:Txt K mg) (aN:jc P w K mg base "_law_take" 1 (["_law_box_here","_law_many_here"]:List Str) (spT K aJ)):dD P w K mg base rD 2 f fd (["_law_box_here","_law_many_here"]:List Str) (spT K lU):=
 gB (body:=vD) F fK fun cdv A outer s H E hr=>(aD (bY (i:=2) fK.nd rfl (Or.inr rfl) (ao jz)) (aD (bY (i:=3) fK.nd rfl (Or.inr rfl) (bW aA)) (aD (fG PassesOwn.never rfl (fX rfl T.dB (aq (pv 1))) (b7 (i:=4) fK.nd rfl (Or.inl rfl)) cM (aD (bY (i:=5) fK.nd rfl (Or.inl rfl) (bA (aQ hr.aH) bB (aj (bW (aa (ao au) (aa (ao au) (aa (ao au) aA))))) (aj (aW aN (hr.mono (by decide)) rfl (aa (aB (pv 0)) (aa (ao au) aA)))) (fun _ _=>rfl))) (aD (bY (i:=6) fK.nd rfl (Or.inr rfl) (Qs (aj (ao jz)) (aj (pD (T:=.one) (NT:=(["_law_j"]:List Str)) (NF:=(["_law_letters","_law_box_here"]:List Str)) (js:=[2,0]) (oV.ok (N0:=(["_law_box_here","_law_many_here","_law_letters","_law_found","_law_k","_law_size","_law_name"]:List Str)) (yI:=aC eO) (by decide +kernel) rfl rfl) (⟨_,⟨_,rfl⟩,rfl⟩) rfl (fX rfl T.dB (aq (pv 5))) (fun b=>⟨gJ,(bA (aQ hr.aH) bB (aq (pv 1)) (aj (aW aN (hr.mono (by decide)) rfl (aa (aB (pv 2)) (aa (ao au) aA)))) (fun _ _=>rfl))⟩))))) (aD (jZ (PW.pt (qH (cU (lC hr.units) rM (aj (aW aN (hr.mono (by decide)) rfl (aa (aB (pv 0)) (aa (ao au) aA)))) (aj (ao au)) (cC _)) (tG (cU (yS hr.units) Gm (aq (pv 3)) (aj (bW aA)) (cC _))))) (aX (bY (i:=6) fK.nd rfl (Or.inr rfl) (aP bw bQ (aj (R9 (aj (bA (aQ hr.aH) bB (aq (pv 3)) (aj (aW aN (hr.mono (by decide)) rfl (aa (aB (pv 0)) (aa (bF dz jK rfl T.ir (by decide +kernel) (aM (aq (pv 3)) aZ)) aA)))) (fun _ _=>rfl))) R7 (R8 (aj (ao au))))) (aj (bA (aQ hr.aH) bB (aq (pv 2)) (aj (aW aN (hr.mono (by decide)) rfl (aa (aB (pv 0)) (aa (ao au) aA)))) (fun _ _=>rfl)))))) gk) (aX (lG (pv 3) (bA (aQ hr.aH) bB (aj (pD (T:=.one) (NT:=(["_law_one"]:List Str)) (NF:=(["_law_found"]:List Str)) (js:=[3]) (oV.ok (N0:=(["_law_box_here","_law_many_here","_law_letters","_law_found","_law_k","_law_size","_law_name"]:List Str)) (yI:=aC eO) (by decide +kernel) rfl rfl) (⟨_,⟨_,rfl⟩,rfl⟩) rfl (wz (aj (aP bw bQ (aj (bW (aa (aB (pv 6)) aA))) (aj (pD (T:=.one) (NT:=(["_law_one"]:List Str)) (NF:=(["_law_name"]:List Str)) (js:=[6]) (oV.ok (N0:=(["_law_box_here","_law_many_here","_law_letters","_law_found","_law_k","_law_size","_law_name"]:List Str)) (yI:=aC eO) (by decide +kernel) rfl rfl) (⟨_,⟨_,rfl⟩,rfl⟩) rfl (wz (aq (pv 2))) (fun b=>⟨gJ,(aP bw bQ (aj (R9 (aq (pv 1)) R7 (R8 (aj (ao au))))) (aq (pv 0)))⟩)))))) (fun b=>⟨(pC (cU (Jc hr.aH) Lg (aq (pv 0)) (aq (pv 1)) (by with_unfolding_all rfl))),(aB (pv 0))⟩))) (aj (ao au)) (fun _ _=>rfl)))))))) (aX (mL (pv 3))))))
theorem QX {P:Program} {w:World} {K:PySem.W.Frag} {mg:Str→Option Value} {base:Heap} {f:Addr} {fd:FuncData} (F:ue K "_law_day" "_law_day" qU f fd) (T:Txt K mg) (aN:jc P w K mg base "_law_take" 1 (["_law_box_here","_law_many_here"]:List Str) (spT K aJ)):dD P w K mg base rD 2 f fd (["_law_box_here"]:List Str) (spT K jk):=
 gB (body:=Ek) F Hr fun cdv A outer s H E hr=>(aD (bY (i:=1) Hr.nd rfl (Or.inl rfl) (bA (aQ hr.aH) bB (aj (bW (aa (ao au) (aa (ao au) (aa (ao au) (aa (ao au) (aa (ao au) (aa (ao au) aA)))))))) (aj (aW aN (hr.mono (by decide)) rfl (aa (aB (pv 0)) (aa (ao au) aA)))) (fun _ _=>rfl))) (aX (cP (bA (aQ hr.aH) bB (aj (bW (aa (aW aN (hr.mono (by decide)) rfl (aa (aB (pv 0)) (aa (ao au) aA))) (aa (aW aN (hr.mono (by decide)) rfl (aa (aB (pv 0)) (aa (ao au) aA))) (aa (aP Cu Dy (aj (ao au)) (aj (aW aN (hr.mono (by decide)) rfl (aa (aB (pv 0)) (aa (ao au) aA))))) aA))))) (aq (pv 1)) (fun _ _=>rfl)))))
theorem QZ {P:Program} {w:World} {K:PySem.W.Frag} {mg:Str→Option Value} {base:Heap} {f:Addr} {fd:FuncData} (F:ue K "_law_sum" "_law_sum" qW f fd) (T:Txt K mg) (aN:jc P w K mg base "_law_take" 1 (["_law_box_here","_law_many_here"]:List Str) (spT K aJ)):dD P w K mg base rD 2 f fd (["_law_box_here"]:List Str) (spT K q9):=
 gB (body:=El) F QV fun cdv A outer s H E hr=>(aX (cP (bA (aQ hr.aH) bB (aj (bW (aa (aW aN (hr.mono (by decide)) rfl (aa (aB (pv 0)) (aa (ao au) aA))) (aa (aP qj qD (aj (ao au)) (aj (aW aN (hr.mono (by decide)) rfl (aa (aB (pv 0)) (aa (ao au) aA))))) (aa (aP Cu Dy (aj (aP Cv Dz (aj (ao au)) (aj (ao au)))) (aj (aW aN (hr.mono (by decide)) rfl (aa (aB (pv 0)) (aa (ao au) aA))))) aA))))) (aj (bA (aQ hr.aH) bB (aj (bW (aa (ao au) (aa (ao au) (aa (ao au) (aa (ao au) (aa (ao au) aA))))))) (aj (aW aN (hr.mono (by decide)) rfl (aa (aB (pv 0)) (aa (ao au) aA)))) (fun _ _=>rfl))) (fun _ _=>rfl))))
theorem Cd {P:Program} {w:World} {K:PySem.W.Frag} {mg:Str→Option Value} {base:Heap} {f:Addr} {fd:FuncData} (F:ue K "_law_numbers" "_law_numbers" fL f fd) (T:Txt K mg) (aN:jc P w K mg base "_law_take" 1 (["_law_box_here","_law_many_here"]:List Str) (spT K aJ)):dD P w K mg base rD 2 f fd (["_law_box_here","_law_many_here"]:List Str) (spT K fM):=
 gB (body:=oh) F gb fun cdv A outer s H E hr=>(aD (qJ (i:=2) (j:=3) rfl gb.nd rfl rfl (by decide) rfl rfl (cN (bW aA) (cN (ao au) nJ)) rfl) (aD (fG PassesOwn.never rfl (fX rfl T.dB (aq (pv 1))) (b7 (i:=4) gb.nd rfl (Or.inl rfl)) cM (aD (bY (i:=3) gb.nd rfl (Or.inl rfl) (aP bw bQ (aq (pv 3)) (aj (bA (aQ hr.aH) bB (aj (bW (aa (ao au) (aa (ao au) (aa (aP bw bQ (aj (ao au)) (aj (aW aN (hr.mono (by decide)) rfl (aa (aB (pv 0)) (aa (ao au) aA))))) aA))))) (aj (aW aN (hr.mono (by decide)) rfl (aa (aB (pv 0)) (aa (ao au) aA)))) (fun _ _=>rfl))))) (aD (lG (pv 2) (aB (pv 3))) (aX (bY (i:=3) gb.nd rfl (Or.inl rfl) (aP bw bQ (aq (pv 3)) (aj (ao au)))))))) (aX (mL (pv 2)))))
theorem Nf {P:Program} {w:World} {K:PySem.W.Frag} {mg:Str→Option Value} {base:Heap} {f:Addr} {fd:FuncData} (F:ue K "_law_many" "_law_many" mR f fd) (T:Txt K mg) (aN:jc P w K mg base "_law_take" 1 (["_law_box_here","_law_many_here"]:List Str) (spT K aJ)):dD P w K mg base rD 2 f fd (["_law_box_here","_law_most"]:List Str) (spT K fU):=
 gB (body:=tR) F M6 fun cdv A outer s H E hr=>(aX (cP (W0 (cU (lC hr.units) rM (aj (aW aN (hr.mono (by decide)) rfl (aa (aB (pv 0)) (aa (ao au) aA)))) (aj (ao au)) (cC _)) (aB (pv 1)) (aW aN (hr.mono (by decide)) rfl (aa (aB (pv 0)) (aa (aP bw bQ (aq (pv 1)) (aj (ao au))) aA))))))
theorem Jx {P:Program} {w:World} {K:PySem.W.Frag} {mg:Str→Option Value} {base:Heap} {f:Addr} {fd:FuncData} (F:ue K "_law_parts" "_law_parts" g8 f fd) (T:Txt K mg) (aN:jc P w K mg base "_law_take" 1 (["_law_box_here","_law_many_here"]:List Str) (spT K aJ)) (gM:jc P w K mg base "_law_many" 2 (["_law_box_here","_law_most"]:List Str) (spT K fU)):dD P w K mg base rD 3 f fd (["_law_box_here","_law_names_here"]:List Str) (spT K lW):=
 gB (body:=vG) F qX fun cdv A outer s H E hr=>(aD (bY (i:=2) qX.nd rfl (Or.inl rfl) (bW aA)) (aD (fG PassesOwn.never rfl (fX rfl T.dB (aj (bF (wH rfl) GP rfl T.vB (by decide +kernel) (aM (aj (ao au)) (aM (aj (aW gM (hr.mono (by decide)) rfl (aa (aB (pv 0)) (aa (ao au) aA)))) aZ))))) (b7 (i:=3) qX.nd rfl (Or.inl rfl)) cM (aX (lG (pv 2) (jh (aa (bA (aQ hr.aH) bB (aq (pv 1)) (aq (pv 3)) (fun _ _=>rfl)) (aa (bA (aQ hr.aH) bB (aj (aP bw bQ (aj (bW (aa (ao jz) aA))) (aj (pD (T:=.one) (NT:=(["_law_row"]:List Str)) (NF:=([]:List Str)) (js:=[]) (oV.ok (N0:=(["_law_box_here","_law_names_here","_law_rows","_law_k"]:List Str)) (yI:=aC g8) (by decide +kernel) rfl rfl) (⟨_,⟨_,rfl⟩,rfl⟩) rfl (wz (aq (pv 2))) (fun b=>⟨gJ,(bA (aQ hr.aH) bB (aq (pv 0)) (aj (ao au)) (fun _ _=>rfl))⟩))))) (aj (aW aN (hr.mono (by decide)) rfl (aa (aB (pv 0)) (aa (aP bw bQ (aq (pv 3)) (aj (ao au))) aA)))) (fun _ _=>rfl)) aA)))))) (aX (mL (pv 2)))))
theorem Jy {P:Program} {w:World} {K:PySem.W.Frag} {mg:Str→Option Value} {base:Heap} {f:Addr} {fd:FuncData} (F:ue K "_law_house" "_law_house" gf f fd) (T:Txt K mg) (aN:jc P w K mg base "_law_take" 1 (["_law_box_here","_law_many_here"]:List Str) (spT K aJ)) (jT:jc P w K mg base "_law_day" 2 (["_law_box_here"]:List Str) (spT K jk)) (zL:jc P w K mg base "_law_sum" 2 (["_law_box_here"]:List Str) (spT K q9)) (jU:jc P w K mg base "_law_numbers" 2 (["_law_box_here","_law_many_here"]:List Str) (spT K fM)) (gM:jc P w K mg base "_law_many" 2 (["_law_box_here","_law_most"]:List Str) (spT K fU)) (vK:jc P w K mg base "_law_parts" 3 (["_law_box_here","_law_names_here"]:List Str) (spT K lW)):dD P w K mg base rD 4 f fd (["_law_box_here","_law_names_here"]:List Str) (spT K lY):=
 gB (body:=vH) F bN fun cdv A outer s H E hr=>(aD (bY (i:=2) bN.nd rfl (Or.inl rfl) (aW vK (hr.mono (by decide)) rfl (aa (aB (pv 0)) (aa (aB (pv 1)) aA)))) (aD (Qd (is:=[3,4,5,6]) (cN (pD (T:=.one) (NT:=(["_law_row"]:List Str)) (NF:=([]:List Str)) (js:=[]) (oV.ok (N0:=(["_law_box_here","_law_names_here","_law_parts_here","_law_own","_law_ranks","_law_leaves","_law_rules","_law_number","_law_days","_law_who","_law_where","_law_at","_law_taker","_law_k","_law_key","_law_seats","_law_j","_law_part","_law_rows"]:List Str)) (yI:=aC gf) (by decide +kernel) rfl rfl) (⟨_,⟨_,rfl⟩,rfl⟩) rfl (wz (aq (pv 2))) (fun b=>⟨gJ,(bA (aQ hr.aH) bB (aq (pv 0)) (aj (ao au)) (fun _ _=>rfl))⟩)) (cN (bW aA) (cN (bW aA) (cN Bb nJ)))) (Cm rfl (fV (b7 (i:=3) bN.nd rfl (Or.inl rfl)) (fV (b7 (i:=4) bN.nd rfl (Or.inl rfl)) (fV (b7 (i:=5) bN.nd rfl (Or.inl rfl)) (fV (b7 (i:=6) bN.nd rfl (Or.inr rfl)) yq)))))) (aD (fG PassesOwn.never rfl (Qg (aW jU (hr.mono (by decide)) rfl (aa (aB (pv 0)) (aa (aW gM (hr.mono (by decide)) rfl (aa (aB (pv 0)) (aa (ao au) aA))) aA)))) (b7 (i:=7) bN.nd rfl (Or.inl rfl)) cM (aD (bY (i:=8) bN.nd rfl (Or.inl rfl) (bF (jL rfl) pK rfl T.dm (by decide +kernel) (aM (aj (bW (aa (aW jT (hr.mono (by decide)) rfl (aa (aB (pv 0)) aA)) (aa (aW jT (hr.mono (by decide)) rfl (aa (aB (pv 0)) aA)) aA)))) aZ))) (aD (qJ (i:=9) (j:=10) rfl bN.nd rfl rfl (by decide) rfl rfl (cN (bA (aQ hr.aH) bB (aq (pv 1)) (aj (aW aN (hr.mono (by decide)) rfl (aa (aB (pv 0)) (aa (ao au) aA)))) (fun _ _=>rfl)) (cN (bA (aQ hr.aH) bB (aq (pv 3)) (aj (aW aN (hr.mono (by decide)) rfl (aa (aB (pv 0)) (aa (bF dz jK rfl T.ir (by decide +kernel) (aM (aq (pv 3)) aZ)) aA)))) (fun _ _=>rfl)) nJ)) rfl) (aX (lG (pv 4) (jh (aa (aB (pv 7)) (aa (aB (pv 9)) (aa (aP bw bQ (aj (ao au)) (aj (aW aN (hr.mono (by decide)) rfl (aa (aB (pv 0)) (aa (bA (aQ hr.aH) bB (aj (bW (aa (ao au) (aa (ao au) aA)))) (aj (aW aN (hr.mono (by decide)) rfl (aa (aB (pv 0)) (aa (ao au) aA)))) (fun _ _=>rfl)) aA))))) (aa (aB (pv 10)) (aa (bA (aQ hr.aH) bB (aq (pv 8)) (aj (ao au)) (fun _ _=>rfl)) (aa (bA (aQ hr.aH) bB (aq (pv 8)) (aj (ao au)) (fun _ _=>rfl)) aA)))))))))))) (aD (fG PassesOwn.never rfl (Qg (aW jU (hr.mono (by decide)) rfl (aa (aB (pv 0)) (aa (aW gM (hr.mono (by decide)) rfl (aa (aB (pv 0)) (aa (ao au) aA))) aA)))) (b7 (i:=7) bN.nd rfl (Or.inl rfl)) cM (aD (qJ (i:=8) (j:=11) rfl bN.nd rfl rfl (by decide) rfl rfl (cN (bF (jL rfl) pK rfl T.dm (by decide +kernel) (aM (aj (bW (aa (aW jT (hr.mono (by decide)) rfl (aa (aB (pv 0)) aA)) (aa (aW jT (hr.mono (by decide)) rfl (aa (aB (pv 0)) aA)) aA)))) aZ)) (cN (aW aN (hr.mono (by decide)) rfl (aa (aB (pv 0)) (aa (ao au) aA))) nJ)) rfl) (aD (qJ (i:=12) (j:=10) rfl bN.nd rfl rfl (by decide) rfl rfl (cN (bA (aQ hr.aH) bB (aq (pv 1)) (aj (aP nu nH (aj (aP bw bQ (aj (aP bw bQ (aq (pv 11)) (aj (ao au)))) (aj (aW aN (hr.mono (by decide)) rfl (aa (aB (pv 0)) (aa (ao au) aA)))))) (aj (ao au)))) (fun _ _=>rfl)) (cN (bA (aQ hr.aH) bB (aq (pv 3)) (aj (aW aN (hr.mono (by decide)) rfl (aa (aB (pv 0)) (aa (bF dz jK rfl T.ir (by decide +kernel) (aM (aq (pv 3)) aZ)) aA)))) (fun _ _=>rfl)) nJ)) rfl) (aX (lG (pv 5) (jh (aa (aB (pv 7)) (aa (bA (aQ hr.aH) bB (aq (pv 1)) (aq (pv 11)) (fun _ _=>rfl)) (aa (aB (pv 12)) (aa (aB (pv 10)) (aa (bA (aQ hr.aH) bB (aq (pv 8)) (aj (ao au)) (fun _ _=>rfl)) (aa (bA (aQ hr.aH) bB (aq (pv 8)) (aj (ao au)) (fun _ _=>rfl)) (aa (aW zL (hr.mono (by decide)) rfl (aa (aB (pv 0)) aA)) aA))))))))))))) (aD (fG PassesOwn.never rfl (fX rfl T.dB (aj (aW gM (hr.mono (by decide)) rfl (aa (aB (pv 0)) (aa (ao au) aA))))) (b7 (i:=13) bN.nd rfl (Or.inl rfl)) cM (aD (qJ (i:=14) (j:=15) rfl bN.nd rfl rfl (by decide) rfl rfl (cN (jh (aa (bA (aQ hr.aH) bB (aq (pv 3)) (aj (aW aN (hr.mono (by decide)) rfl (aa (aB (pv 0)) (aa (bF dz jK rfl T.ir (by decide +kernel) (aM (aq (pv 3)) aZ)) aA)))) (fun _ _=>rfl)) (aa (aW zL (hr.mono (by decide)) rfl (aa (aB (pv 0)) aA)) aA))) (cN (bW aA) nJ)) rfl) (aD (fG PassesOwn.never rfl (fX rfl T.dB (aj (aW gM (hr.mono (by decide)) rfl (aa (aB (pv 0)) (aa (ao au) aA))))) (b7 (i:=16) bN.nd rfl (Or.inl rfl)) cM (aD (bY (i:=17) bN.nd rfl (Or.inl rfl) (bA (aQ hr.aH) bB (aj (aP bw bQ (aj (bW (aa (ao jz) (aa (ao jz) aA)))) (aq (pv 3)))) (aj (aW aN (hr.mono (by decide)) rfl (aa (aB (pv 0)) (aa (aP bw bQ (aj (ao au)) (aj (bF dz jK rfl T.ir (by decide +kernel) (aM (aq (pv 3)) aZ)))) aA)))) (fun _ _=>rfl))) (aX (lG (pv 15) (jh (aa (aP bw bQ (aj (ao au)) (aj (aW aN (hr.mono (by decide)) rfl (aa (aB (pv 0)) (aa (bA (aQ hr.aH) bB (aj (bW (aa (ao au) (aa (ao au) aA)))) (aj (aW aN (hr.mono (by decide)) rfl (aa (aB (pv 0)) (aa (ao au) aA)))) (fun _ _=>rfl)) aA))))) (aa (aB (pv 17)) aA))))))) (aX (zg hr.aH (pv 6) (aq (pv 14)) (gW dI lN rfl T.dU (by decide +kernel) (aM (aq (pv 15)) aZ))))))) (aD (uL (i:=18) (T:=.one) (NT:=(["_law_key"]:List Str)) (NF:=(["_law_rules"]:List Str)) (js:=[6]) (oV.ok (N0:=(["_law_box_here","_law_names_here","_law_parts_here","_law_own","_law_ranks","_law_leaves","_law_rules","_law_number","_law_days","_law_who","_law_where","_law_at","_law_taker","_law_k","_law_key","_law_seats","_law_j","_law_part","_law_rows"]:List Str)) (yI:=aC gf) (by decide +kernel) rfl rfl) (⟨_,⟨_,rfl⟩,rfl⟩) rfl (wz (aj (bF (jL rfl) pK rfl T.dm (by decide +kernel) (aM (aq (pv 6)) aZ)))) (fun b=>⟨gJ,(aP bw bQ (aq (pv 0)) (aj (jh (aa (bA (aQ hr.aH) bB (aq (pv 1)) (aq (pv 0)) (fun _ _=>rfl)) aA))))⟩) (by rfl) bN.nd rfl rfl) (aX (cP (jh (aa (aB (pv 2)) (aa (jh (aa (gW dI lN rfl T.dU (by decide +kernel) (aM (aj (bF (jL rfl) pK rfl T.dm (by decide +kernel) (aM (aq (pv 2)) aZ))) aZ)) (aa (gW dI lN rfl T.dU (by decide +kernel) (aM (aq (pv 4)) aZ)) (aa (gW dI lN rfl T.dU (by decide +kernel) (aM (aq (pv 5)) aZ)) (aa (gW dI lN rfl T.dU (by decide +kernel) (aM (aq (pv 18)) aZ)) aA))))) aA)))))))))))
theorem Ng {P:Program} {w:World} {K:PySem.W.Frag} {mg:Str→Option Value} {base:Heap} {f:Addr} {fd:FuncData} (n:Nat) (F:ue K "_law_same" "_law_same" iK f fd) (T:Txt K mg) (pY:jc P w K mg base "_law_same" n (["_law_found","_law_due"]:List Str) (spT K (eY n))):dD P w K mg base rD (n + 1) f fd (["_law_found","_law_due"]:List Str) (spT K (eY (n + 1))):=
 gB (body:=tU (eY n)) F M7 fun cdv A outer s H E hr=>(aD (jZ (cU J1 Le (aq (pv 1)) (aj (ao yo)) (cC _)) (aX (cP (lA J1 Le (aq (pv 0)) (aj (ao yo)) (cC _)))) gk) (aD (jZ (qG (aj (jj (by decide) (aq (pv 1)) (dM (v:=.ty "bool") rfl T.nZ (by decide +kernel) rfl) rfl T.bu (by decide +kernel)))) (aX (cP (uG (jj (by decide) (aq (pv 0)) (dM (v:=.ty "bool") rfl T.nZ (by decide +kernel) rfl) rfl T.bu (by decide +kernel)) (za (lA (lC hr.units) rM (aq (pv 0)) (aq (pv 1)) (cC _)))))) gk) (aD (jZ (qG (aj (Qk (by decide) (by decide) (aq (pv 1)) (dM (v:=.ty "list") rfl T.n6 (by decide +kernel) rfl) (dM (v:=.ty "tuple") rfl T.dU (by decide +kernel) rfl) rfl T.bu (by decide +kernel)))) (aD (jZ (PW.pt (WY (cU (yS hr.units) Gm (aj (jj (by decide) (aq (pv 0)) (dM (v:=.ty "list") rfl T.n6 (by decide +kernel) rfl) rfl T.bu (by decide +kernel))) (aj (jj (by decide) (aq (pv 1)) (dM (v:=.ty "list") rfl T.n6 (by decide +kernel) rfl) rfl T.bu (by decide +kernel))) (cC _)) (Ux (cU (yS hr.units) Gm (aj (jj (by decide) (aq (pv 0)) (dM (v:=.ty "tuple") rfl T.dU (by decide +kernel) rfl) rfl T.bu (by decide +kernel))) (aj (jj (by decide) (aq (pv 1)) (dM (v:=.ty "tuple") rfl T.dU (by decide +kernel) rfl) rfl T.bu (by decide +kernel))) (cC _))))) (aX (cP (ao tX))) gk) (aX (cP (uG (lA (lC hr.units) rM (aj (bF dz jK rfl T.ir (by decide +kernel) (aM (aq (pv 0)) aZ))) (aj (bF dz jK rfl T.ir (by decide +kernel) (aM (aq (pv 1)) aZ))) (cC _)) (za (bF (z9 rfl) Ml rfl T.yc (by decide +kernel) (aM (aj (pD (T:=(.many 2)) (NT:=(["_law_one","_law_other"]:List Str)) (NF:=([]:List Str)) (js:=[]) (oV.ok (N0:=(["_law_found","_law_due"]:List Str)) (yI:=aC iK) (by decide +kernel) rfl rfl) (⟨_,_,_,rfl,(.cons ⟨_,rfl⟩ (.cons ⟨_,rfl⟩ .nil)),rfl⟩) rfl (Va rfl T.Ca (aM (aq (pv 0)) (aM (aq (pv 1)) aZ))) (fun b=>⟨gJ,(aW pY hr rfl (aa (aB (pv 0)) (aa (aB (pv 1)) aA)))⟩))) aZ))))))) gk) (aD (jZ (qG (aj (jj (by decide) (aq (pv 1)) (dM (v:=.ty "str") rfl T.yg (by decide +kernel) rfl) rfl T.bu (by decide +kernel)))) (aX (cP (uG (jj (by decide) (aq (pv 0)) (dM (v:=.ty "str") rfl T.yg (by decide +kernel) rfl) rfl T.bu (by decide +kernel)) (za (lA (lC hr.units) rM (aq (pv 0)) (aq (pv 1)) (cC _)))))) gk) (aX (cP (uG (jj (by decide) (aq (pv 0)) (dM (v:=.ty "int") rfl T.vA (by decide +kernel) rfl) rfl T.bu (by decide +kernel)) (uG (Uz (jj (by decide) (aq (pv 0)) (dM (v:=.ty "bool") rfl T.nZ (by decide +kernel) rfl) rfl T.bu (by decide +kernel))) (za (lA (lC hr.units) rM (aq (pv 0)) (aq (pv 1)) (cC _)))))))))))
theorem yj {P:Program} {w:World} {K:PySem.W.Frag} {mg:Str→Option Value} {base:Heap} {f:Addr} {fd:FuncData} (hm:mg "_law_same"=some (.ref f)) (hk:PySem.W.keepIn K (.ref f)=true) (hb:Binds K fd (["_law_found","_law_due"]:List Str) []) (F:ue K "_law_same" "_law_same" iK f fd) (T:Txt K mg):
  ∀n,jc P w K mg base "_law_same" n (["_law_found","_law_due"]:List Str) (spT K (eY n))
 | 0=>⟨f,fd,hm,hk,hb,Qv⟩
 | n + 1=>⟨f,fd,hm,hk,hb,Ng n F T (yj hm hk hb F T n)⟩
theorem Nh {P:Program} {w:World} {K:PySem.W.Frag} {mg:Str→Option Value} {base:Heap} {f:Addr} {fd:FuncData} (F:ue K "_law_over" "_law_over" mU f fd) (T:Txt K mg):dD P w K mg base rD 1 f fd (["_law_parts_here"]:List Str) (spT K pU):=
 gB (body:=zK) F pQ fun cdv A outer s H E hr=>(aD (bY (i:=1) pQ.nd rfl (Or.inl rfl) Bb) (aD (fG PassesOwn.never rfl (Xb (aB (pv 0))) (Cm rfl (fV (b7 (i:=2) pQ.nd rfl (Or.inl rfl)) (fV (b7 (i:=3) pQ.nd rfl (Or.inl rfl)) yq))) (Ls (pB cM (pB cM Gy))) (aX (zg hr.aH (pv 1) (aq (pv 2)) (aP bw bQ (aj (bW (aa (aB (pv 2)) aA))) (aj (Ms hr.aH (aq (pv 1)) (aq (pv 3)) (bW aA) ⟨rfl,rfl,rfl,rfl⟩)))))) (aX (mL (pv 1)))))
theorem Jz {P:Program} {w:World} {K:PySem.W.Frag} {mg:Str→Option Value} {base:Heap} {f:Addr} {fd:FuncData} (F:ue K "_law_right" "_law_right" eU f fd) (T:Txt K mg) (jV:jc P w K mg base "holders_of" 3 (["house","rank","part","day"]:List Str) (spT K eX)) (pY:jc P w K mg base "_law_same" 3 (["_law_found","_law_due"]:List Str) (spT K (eY 3))):dD P w K mg base rD 5 f fd (["_law_house_here","_law_over_here","_law_part","_law_day_here","_law_twice"]:List Str) (spT K mq):=
 gB (body:=vJ) F d8 fun cdv A outer s H E hr=>(aD (bY (i:=5) d8.nd rfl (Or.inl rfl) (ao yo)) (aD (fG PassesOwn.never rfl (Js rfl T.dB (aM (aj (ao au)) (aM (aj (ao au)) (aM (aj (Ln (aj (ao au)))) aZ)))) (b7 (i:=6) d8.nd rfl (Or.inr rfl)) cM (aD (uL (i:=7) (T:=.one) (NT:=(["_law_row"]:List Str)) (NF:=(["_law_rank","_law_day_here"]:List Str)) (js:=[6,3]) (oV.ok (N0:=(["_law_house_here","_law_over_here","_law_part","_law_day_here","_law_twice","_law_last","_law_rank","_law_some","_law_due","_law_turn","_law_found"]:List Str)) (yI:=aC eU) (by decide +kernel) rfl rfl) (⟨_,⟨_,rfl⟩,rfl⟩) rfl (wz (aj (bA (aQ hr.aH) bB (aq (pv 0)) (aj (ao au)) (fun _ _=>rfl)))) (fun b=>⟨(pC (PW.pt (qH (cU J0 Ld (aj (bA (aQ hr.aH) bB (aq (pv 0)) (aj (ao au)) (fun _ _=>rfl))) (aq (pv 1)) (cC _)) (qH (cU yV Gn (aj (bA (aQ hr.aH) bB (aq (pv 0)) (aj (ao au)) (fun _ _=>rfl))) (aq (pv 2)) (cC _)) (tG (cU yV Gn (aq (pv 2)) (aj (bA (aQ hr.aH) bB (aq (pv 0)) (aj (ao au)) (fun _ _=>rfl))) (cC _))))))),(aB (pv 0))⟩) (by rfl) d8.nd rfl rfl) (aD (bY (i:=8) d8.nd rfl (Or.inr rfl) (Qn rfl (aj (pD (T:=.one) (NT:=(["_law_row"]:List Str)) (NF:=(["_law_over_here","_law_part"]:List Str)) (js:=[1,2]) (oV.ok (N0:=(["_law_house_here","_law_over_here","_law_part","_law_day_here","_law_twice","_law_last","_law_rank","_law_some","_law_due","_law_turn","_law_found"]:List Str)) (yI:=aC eU) (by decide +kernel) rfl rfl) (⟨_,⟨_,rfl⟩,rfl⟩) rfl (wz (aq (pv 7))) (fun b=>⟨(pC (cU (yZ hr.aH) Gs (aj (bA (aQ hr.aH) bB (aq (pv 0)) (aj (ao au)) (fun _ _=>rfl))) (aj (Ms hr.aH (aq (pv 1)) (aq (pv 2)) (bW aA) ⟨rfl,rfl,rfl,rfl⟩)) (by with_unfolding_all rfl))),(bA (aQ hr.aH) bB (aq (pv 0)) (aj (ao au)) (fun _ _=>rfl))⟩))) rfl T.dm rfl T.yf)) (aD (fG PassesOwn.never rfl (fX rfl T.dB (aj (aP bw bQ (aj (ao au)) (aj (gW wJ Mj rfl T.vA (by decide +kernel) (aM (aj (lA (lC hr.units) rM (aq (pv 6)) (aq (pv 4)) (cC _))) aZ)))))) (b7 (i:=9) d8.nd rfl (Or.inl rfl)) cM (aD (bY (i:=10) d8.nd rfl (Or.inl rfl) (aW jV (hr.mono (by decide)) rfl (aa (aB (pv 0)) (aa (aB (pv 6)) (aa (aB (pv 2)) (aa (aB (pv 3)) aA)))))) (aD (jZ (DK (qG (aj (aW pY (hr.mono (by decide)) rfl (aa (aB (pv 10)) (aa (aB (pv 8)) aA)))))) (aX (cP (ao tX))) gk) (aD (lG (pv 10) (ao jz)) (aX (Vh (pv 10))))))) (aD (jZ (PW.pt (qH (cU Om PN (aq (pv 5)) (aj (ao yo)) (cC _)) (tG (DK (qG (aj (bF (z9 rfl) Ml rfl T.yc (by decide +kernel) (aM (aj (pD (T:=.one) (NT:=(["_law_person"]:List Str)) (NF:=(["_law_due"]:List Str)) (js:=[8]) (oV.ok (N0:=(["_law_house_here","_law_over_here","_law_part","_law_day_here","_law_twice","_law_last","_law_rank","_law_some","_law_due","_law_turn","_law_found"]:List Str)) (yI:=aC eU) (by decide +kernel) rfl rfl) (⟨_,⟨_,rfl⟩,rfl⟩) rfl (wz (aq (pv 5))) (fun b=>⟨gJ,(lA (yZ hr.aH) Gs (aq (pv 0)) (aq (pv 1)) (by with_unfolding_all rfl))⟩))) aZ)))))))) (aX (cP (ao tX))) gk) (aX (bY (i:=5) d8.nd rfl (Or.inl rfl) (aB (pv 8))))))))) (aX (cP (ao tX)))))
theorem Vm {P:Program} {w:World} {K:PySem.W.Frag} {mg:Str→Option Value} {base:Heap} {f:Addr} {fd:FuncData} (F:ue K "law" "law" pR f fd) (T:Txt K mg) (Eo:jc P w K mg base "_law_box" 1 (["_law_script","_law_k"]:List Str) (spT K vC)) (aN:jc P w K mg base "_law_take" 1 (["_law_box_here","_law_many_here"]:List Str) (spT K aJ)) (vL:jc P w K mg base "_law_names" 2 (["_law_box_here","_law_many_here"]:List Str) (spT K lU)) (jT:jc P w K mg base "_law_day" 2 (["_law_box_here"]:List Str) (spT K jk)) (vM:jc P w K mg base "_law_house" 4 (["_law_box_here","_law_names_here"]:List Str) (spT K lY)) (zM:jc P w K mg base "_law_over" 1 (["_law_parts_here"]:List Str) (spT K pU)) (vN:jc P w K mg base "_law_right" 5 (["_law_house_here","_law_over_here","_law_part","_law_day_here","_law_twice"]:List Str) (spT K mq)):dD P w K mg base rD 6 f fd (["_law_script"]:List Str) (spT K yh):=
 gB (body:=M9) F ie fun cdv A outer s H E hr=>(aD (fG PassesOwn.never rfl (fX rfl T.dB (aj (aP bw bQ (aj (ao au)) (aj (bF (wI rfl) GQ rfl T.ye (by decide +kernel) (aM (aj (ao au)) (aM (aj (GK (pv 0) rfl T.ir (by decide +kernel))) aZ))))))) (b7 (i:=1) ie.nd rfl (Or.inl rfl)) cM (aD (U0 (i:=2) ie.nd rfl (Or.inl rfl) (aW Eo (hr.mono (by decide)) rfl (aa (aB (pv 0)) (aa (aB (pv 1)) aA)))) (aD (bY (i:=3) ie.nd rfl (Or.inl rfl) (aW vL (hr.mono (by decide)) rfl (aa (aB (pv 2)) (aa (ao au) aA)))) (aD (UT (aW vM (hr.mono (by decide)) rfl (aa (aB (pv 2)) (aa (aB (pv 3)) aA))) (Cm rfl (fV (b7 (i:=4) ie.nd rfl (Or.inl rfl)) (fV (b7 (i:=5) ie.nd rfl (Or.inl rfl)) yq))) (Ls (pB cM (pB cM Gy)))) (aD (qJ (i:=6) (j:=7) rfl ie.nd rfl rfl (by decide) rfl rfl (cN (bF (wV hr.gd hr.units) GR rfl T.qY (by decide +kernel) (aM (aq (pv 5)) aZ)) (cN (aW zM (hr.mono (by decide)) rfl (aa (aB (pv 4)) aA)) nJ)) rfl) (aD (bY (i:=8) ie.nd rfl (Or.inl rfl) (bW (aa (aW jT (hr.mono (by decide)) rfl (aa (aB (pv 2)) aA)) aA))) (aD (bY (i:=9) ie.nd rfl (Or.inl rfl) (bA (aQ hr.aH) bB (aj (aP bw bQ (aj (bA (aQ hr.aH) bB (aq (pv 5)) (aj (ao au)) (fun _ _=>rfl))) (aj (jh (aa (jh (aa (ao au) (aa (ao jz) (aa (ao au) (aa (ao jz) (aa (ao au) (aa (ao au) aA))))))) aA))))) (aj (aW aN (hr.mono (by decide)) rfl (aa (aB (pv 2)) (aa (aP bw bQ (aj (bF dz jK rfl T.ir (by decide +kernel) (aM (aj (bA (aQ hr.aH) bB (aq (pv 5)) (aj (ao au)) (fun _ _=>rfl))) aZ))) (aj (ao au))) aA)))) (fun _ _=>rfl))) (aD (fG PassesOwn.never rfl (Qg (Qm rfl (aj (aP bw bQ (aq (pv 8)) (aj (bW (aa (bA (aQ hr.aH) bB (aq (pv 9)) (aj (ao au)) (fun _ _=>rfl)) (aa (bA (aQ hr.aH) bB (aq (pv 9)) (aj (ao au)) (fun _ _=>rfl)) (aa (bF (wH rfl) GP rfl T.vB (by decide +kernel) (aM (aj (ao au)) (aM (aj (aP Cu Dy (aj (bA (aQ hr.aH) bB (aq (pv 9)) (aj (ao au)) (fun _ _=>rfl))) (aj (ao au)))) aZ))) (aa (bF (wI rfl) GQ rfl T.ye (by decide +kernel) (aM (aj (ao au)) (aM (aj (aP bw bQ (aj (bA (aQ hr.aH) bB (aq (pv 9)) (aj (ao au)) (fun _ _=>rfl))) (aj (ao au)))) aZ))) aA)))))))) rfl T.dm rfl T.yf)) (b7 (i:=10) ie.nd rfl (Or.inl rfl)) cM (aX (fG PassesOwn.never rfl (Qg (bW (aa (bA (aQ hr.aH) bB (aj (bA (aQ hr.aH) bB (aq (pv 4)) (aj (aW aN (hr.mono (by decide)) rfl (aa (aB (pv 2)) (aa (bF dz jK rfl T.ir (by decide +kernel) (aM (aq (pv 4)) aZ)) aA)))) (fun _ _=>rfl))) (aj (ao au)) (fun _ _=>rfl)) (aa (bA (aQ hr.aH) bB (aj (bA (aQ hr.aH) bB (aq (pv 4)) (aj (Ln (aj (ao au)))) (fun _ _=>rfl))) (aj (ao au)) (fun _ _=>rfl)) (aa (ao jz) aA))))) (b7 (i:=11) ie.nd rfl (Or.inl rfl)) cM (aX (jZ (DK (qG (aj (aW vN (hr.mono (by decide)) rfl (aa (aB (pv 5)) (aa (aB (pv 7)) (aa (aB (pv 11)) (aa (aB (pv 10)) (aa (aP bw bQ (aj (ao au)) (aj (aW aN (hr.mono (by decide)) rfl (aa (aB (pv 2)) (aa (ao au) aA))))) aA))))))))) (aX (cP (ao tX))) gk))))) (aX (jZ (cU (yS hr.units) Gm (aj (bF (wV hr.gd hr.units) GR rfl T.qY (by decide +kernel) (aM (aq (pv 5)) aZ))) (aq (pv 6)) (cC _)) (aX (cP (ao tX))) gk)))))))))) (aX (cP (ao tX))))
local macro_rules | `(tactic| simp_arith [$ts,*])=>`(tactic| simp only [e_bin,e_dat,e_bv,e_and,e_or,e_not,e_if,e_ifv,fVar,fTst,fTru,truD,fCst,dat,still,fCal,fFun,aCons,aNil,bCons,bNil,oCons,fSet,fSeq,fRet,fRetV,fNext,fNeg,fLst,fTup,allIm,iB,iV,iB2,iV2,itD,itD2,fLC,frB,fPar,setM,fUnp,gTp,gsCons,gsNil,gNm,LIM,add_int,sub_int,le_int,lt_int,ge_int,gt_int,eq_int,eq_strs,ne_strs,in_strs,ix_t,ix_l,a_t0,a_t1,a_t2,a_t3,a_t4,a_t5,a_t6,rst_same,r_ow,r_bool,r_int,r_str,r_tl,Option.bind_some,Option.map_some,List.getElem?_cons_zero,List.getElem?_cons_succ,List.set_cons_zero,List.set_cons_succ,List.map_cons,List.map_nil,List.length_cons,List.length_nil,Bool.not_true,Bool.not_false,if_true,if_false,ite_self,Bool.false_eq_true,Option.join,id_eq,Nat.reduceAdd,Nat.reduceLeDiff,Nat.reduceLT,and_true,true_and,and_self,String.reduceBEq,Bool.or_false,Bool.or_true,Bool.false_or,Bool.true_or,Bool.and_true,Bool.and_false,Bool.true_and,Bool.false_and,decide_true,decide_false,reduceCtorEq,eq_bool,ne_bool,ne_int,len_l,len_t,beq_self_eq_true,List.length_map,h_ix0,h_ix1,h_ix2,h_ix3,k_ix0,k_ix1,k_ix2,k_ix3,k_ix4,k_ix5,noLs_strs,noLs_ints,$ts,*])
theorem bz {C:Ce} {b L k:Nat} {m:Int} (h:Bf L C b (k + 1)) (h0:0 < m) (h1:m < 1073741824):
  ∃t C',aJ [.ce b,.im (.int m)] C=some (.im (.int t),C')∧0≤t∧t < m∧Bf L C' b k:=by
 obtain ⟨hL,x,y,z,hc,hx,hy,hy2,hz,hz2⟩:=h
 have i0:yz 3 0=some 0:=rfl
 have i2:yz 3 2=some 2:=rfl
 by_cases hp:0 < x
 ·refine ⟨x % m,C.set b [x / m,y,z],dH [some (.ce b),some (.im (.int m)),none,none] rfl rfl ?_ rfl (by simp),Int.emod_nonneg _ (by omega),Int.emod_lt_of_pos _ h0,⟨by simpa using hL,x / m,y,z,zy hc,Int.ediv_nonneg hx (by omega),hy,hy2,hz,by omega⟩⟩
  simp_arith [tQ,uV,hc,hp,mod_eq h0,fdiv_eq h0 h1,wj,uK,zy hc,i0,i2]
 ·have o0:0≤(y + 39373 * (z + 1)) ^ 5 % 2147483647:=Int.emod_nonneg _ (by omega)
  have o1:(y + 39373 * (z + 1)) ^ 5 % 2147483647 < 2147483647:=Int.emod_lt_of_pos _ (by omega)
  have pw:mZ (.int (y + 39373 * (z + 1))) (.int 5)=some (.im (.int ((y + 39373 * (z + 1)) ^ 5))):=pow_eq (by omega) (by omega) (by omega)
  obtain ⟨q,qe⟩:∃q,(y + 39373 * (z + 1)) ^ 5=q:=⟨_,rfl⟩
  rw [qe] at o0 o1 pw
  obtain ⟨once,ho⟩:∃o,q % 2147483647=o:=⟨_,rfl⟩
  rw [ho] at o0 o1
  have c1:∀i,jX (.int i) (.int 2147483629)=some (.im (.int (i % 2147483629))):=fun i=>mod_eq (by omega)
  refine ⟨(once * (once % 40009 + 7) + (z + 1) * 7919) % 2147483629 / 64 % m,C.set b [x,y,z + 1],dH [some (.ce b),some (.im (.int m)),none,none] rfl rfl ?_ rfl (by simp),Int.emod_nonneg _ (by omega),Int.emod_lt_of_pos _ h0,⟨by simpa using hL,x,y,z + 1,zy hc,hx,hy,hy2,by omega,by omega⟩⟩
  simp_arith [tQ,uV,hc,hp,wj,uK,zy hc,mul_eq (i:=39373) (j:=z + 1) (.inl (by omega)),pw,mod_eq (i:=q) (j:=2147483647) (by omega),ho,mod_eq (i:=once) (j:=40009) (by omega),mul_eq (i:=once) (j:=once % 40009 + 7) (.inl (by omega)),mul_eq (i:=z + 1) (j:=7919) (.inr (by omega)),c1,i0,i2,fdiv_eq (j:=64) (by omega) (by omega),mod_eq h0]
theorem vO {C:Ce} {b L j:Nat} (h:Bf L C b (j + 4)):
  ∃k C',jk [.ce b] C=some (.im (.int k),C')∧0≤k∧k≤99999∧Bf L C' b j:=by
 obtain ⟨k1,C1,e1,a1,b1,h1⟩:=bz (m:=6) h (by decide) (by decide)
 obtain ⟨k2,C2,e2,a2,b2,h2⟩:=bz (m:=12) h1 (by decide) (by decide)
 obtain ⟨k3,C3,e3,a3,b3,h3⟩:=bz (m:=40) h2 (by decide) (by decide)
 obtain ⟨k4,C4,e4,a4,b4,h4⟩:=bz (m:=99999) h3 (by decide) (by decide)
 obtain ⟨k,e,k0,k9⟩:∃k:Int,(gC [PyData.int 0,.int 0,.int 0,.int 1,.int 1,.int 2] k1=some (.int 0)∧k=k2∨gC [PyData.int 0,.int 0,.int 0,.int 1,.int 1,.int 2] k1=some (.int 1)∧k=k3∨gC [PyData.int 0,.int 0,.int 0,.int 1,.int 1,.int 2] k1=some (.int 2)∧k=99999 - k4)∧0≤k∧k≤99999:=by
  have hk:k1=0∨k1=1∨k1=2∨k1=3∨k1=4∨k1=5:=by omega
  rcases hk with rfl | rfl | rfl | rfl | rfl | rfl
  iterate 3 exact ⟨k2,.inl ⟨rfl,rfl⟩,by omega,by omega⟩
  iterate 2 exact ⟨k3,.inr (.inl ⟨rfl,rfl⟩),by omega,by omega⟩
  exact ⟨99999 - k4,.inr (.inr ⟨rfl,rfl⟩),by omega,by omega⟩
 refine ⟨k,C4,dH [some (.ce b),none] rfl rfl ?_ rfl (h.eq h4),k0,k9,h4⟩
 rcases e with ⟨e,rfl⟩ | ⟨e,rfl⟩ | ⟨e,rfl⟩ <;> simp_arith [Ek,e1,e2,e3,e4,e]
theorem Ni {C:Ce} {b L j:Nat} (h:Bf L C b (j + 4)):
  ∃k C',q9 [.ce b] C=some (.im (.int k),C')∧0≤k∧k≤1000000000∧Bf L C' b j:=by
 obtain ⟨k2,C2,e2,a2,b2,h2⟩:=bz (m:=9) h (by decide) (by decide)
 obtain ⟨k3,C3,e3,a3,b3,h3⟩:=bz (m:=20) h2 (by decide) (by decide)
 obtain ⟨k4,C4,e4,a4,b4,h4⟩:=bz (m:=3) h3 (by decide) (by decide)
 obtain ⟨k1,C1,e1,a1,b1,h1⟩:=bz (m:=5) h4 (by decide) (by decide)
 obtain ⟨k,e,k0,k9⟩:∃k:Int,(gC [PyData.int 0,.int 1,.int 1,.int 1,.int 2] k1=some (.int 0)∧k=k2∨gC [PyData.int 0,.int 1,.int 1,.int 1,.int 2] k1=some (.int 1)∧k=10 * k3∨gC [PyData.int 0,.int 1,.int 1,.int 1,.int 2] k1=some (.int 2)∧k=1000000000 - k4)∧0≤k∧k≤1000000000:=by
  have hk:k1=0∨k1=1∨k1=2∨k1=3∨k1=4:=by omega
  rcases hk with rfl | rfl | rfl | rfl | rfl
  ·exact ⟨k2,.inl ⟨rfl,rfl⟩,by omega,by omega⟩
  iterate 3 exact ⟨10 * k3,.inr (.inl ⟨rfl,rfl⟩),by omega,by omega⟩
  exact ⟨1000000000 - k4,.inr (.inr ⟨rfl,rfl⟩),by omega,by omega⟩
 have m1:lB (.int 10) (.int k3)=some (.im (.int (10 * k3))):=mul_eq (.inl (by omega))
 have pw:mZ (.int 10) (.int 9)=some (.im (.int 1000000000)):=by rfl
 refine ⟨k,C1,dH [some (.ce b)] rfl rfl ?_ rfl (h.eq h1),k0,k9,h1⟩
 rcases e with ⟨e,rfl⟩ | ⟨e,rfl⟩ | ⟨e,rfl⟩ <;> simp_arith [El,e1,e2,e3,e4,e,m1,pw]
theorem pZ {C:Ce} {b L j:Nat} {m:Int} (h:Bf L C b (j + 2)) (h0:0≤m) (h1:m≤1000):
  ∃k C',fU [.ce b,.im (.int m)] C=some (.im (.int k),C')∧0≤k∧k≤m∧Bf L C' b j:=by
 obtain ⟨k1,C1,e1,a1,b1,h1'⟩:=bz (m:=3) h (by decide) (by decide)
 by_cases hk:k1=0
 ·subst hk
  exact ⟨m,C1,dH [some (.ce b),some (.im (.int m))] rfl rfl (by simp_arith [tR,e1]) rfl (h.eq h1'),h0,Int.le_refl m,h1'.dec⟩
 ·obtain ⟨k2,C2,e2,a2,b2,h2⟩:=bz (m:=m + 1) h1' (by omega) (by omega)
  have hk':(k1==0)=false:=beq_eq_false_iff_ne.mpr hk
  exact ⟨k2,C2,dH [some (.ce b),some (.im (.int m))] rfl rfl (by simp_arith [tR,e1,e2,hk']) rfl (h.eq h2),a2,by omega,h2⟩
theorem vP {C:Ce} {b L j:Nat} {m:Int} (h:Bf L C b (j + 200)) (h0:0≤m) (h1:m≤100):
  ∃(ns:List Int) (C':Ce),fM [.ce b,.im (.int m)] C=some (.ow (.list (ns.map .int)),C')∧ns.length=m.toNat∧(∀x∈ns,0≤x∧x≤2000)∧ns.Pairwise (· < ·)∧Bf L C' b j:=by
 obtain ⟨env',C',e,ns,nx,v4,he,hl,hr,hp,hx0,hx1,hB⟩:=cA (g:=gNm 4) (body:=jl) (its:=lJ 0 m.toNat) (env:=[some (.ce b),some (.im (.int m)),some (.ow (.list [])),some (.im (.int 0)),none]) (C:=C)
  (fun i env C1=>∃(ns:List Int) (nx:Int) (v4:Option Vl),env=[some (.ce b),some (.im (.int m)),some (.ow (.list (ns.map .int))),some (.im (.int nx)),v4]∧ns.length=i∧(∀x∈ns,0≤x∧x < nx)∧ns.Pairwise (· < ·)∧0≤nx∧nx≤11 * i∧Bf L C1 b (j + 2 * (100 - i)))
  ⟨[],0,none,rfl,rfl,(fun _ m=>nomatch m),List.Pairwise.nil,by decide,by decide,h⟩ (fun i d env C1 hd hI=>by
   obtain ⟨ns,nx,v4,rfl,hl,hr,hp,hx0,hx1,hB⟩:=hI
   obtain ⟨rfl,hi⟩:=jM hd
   rw [show j + 2 * (100 - i)=j + 2 * (100 - (i + 1)) + 2 by omega] at hB
   obtain ⟨k1,C2,e1,a1,b1,oA⟩:=bz (m:=9) hB (by decide) (by decide)
   obtain ⟨k2,C3,e2,a2,b2,hB2⟩:=bz (m:=3) oA (by decide) (by decide)
   obtain ⟨y,y0,y1,hy⟩:∃y:Int,0≤y∧y≤9∧gC [PyData.int 0,.int 0,.int (1 + k1)] k2=some (.int y):=by
    have hk:k2=0∨k2=1∨k2=2:=by omega
    rcases hk with rfl | rfl | rfl
    ·exact ⟨0,by omega,by omega,rfl⟩
    ·exact ⟨0,by omega,by omega,rfl⟩
    ·exact ⟨1 + k1,by omega,by omega,rfl⟩
   have lm:(ns.length < 1000000)=True:=eq_true (by omega)
   refine ⟨_,.nx,[some (.ce b),some (.im (.int m)),some (.ow (.list ((ns++[nx + y]).map .int))),some (.im (.int (nx + y + 1))),some (.im (.int (0 + i)))],C3,rfl,?_,.inl rfl,ns++[nx + y],nx + y + 1,_,rfl,by simp [hl],fun x hx=>?_,?_,by omega,by omega,hB2⟩
   ·simp_arith [jl,e1,e2,hy,j8,lF,lm,List.map_append]
   ·rcases List.mem_append.mp hx with hx | hx
    ·have:=hr x hx; omega
    ·rw [List.mem_singleton.mp hx]; omega
   ·rw [List.pairwise_append]
    refine ⟨hp,by simp,fun x hx z hz=>?_⟩
    rw [List.mem_singleton.mp hz]
    have:=hr x hx
    omega)
 rw [jx] at hl hx1 hB
 subst he
 refine ⟨ns,C',dH [some (.ce b),some (.im (.int m)),none,none,none] rfl rfl ?_ rfl (h.eq hB),hl,fun x hx=>?_,hp,hB.mono (Nat.le_add_right _ _)⟩
 ·simp_arith [oh,fD,zR,BR (m:=m) (by omega) (by omega),e]
 ·have:=hr x hx
  omega
theorem Q0 {C:Ce} {b L j:Nat} {size:Int} (h:Bf L C b (j + 8)) (h0:0≤size) (h1:size≤8):
  ∃(cs:List Nat) (C':Ce),cQ .one fY lR [some (.im (.str abc)),some (.ce b)] (lJ 0 size.toNat) C=some ((cs.map fun c=>.str ⟨#[c]⟩),C')∧cs.length=size.toNat∧(∀c∈cs,97≤c∧c≤122)∧Bf L C' b j:=by
 obtain ⟨ys,C',e,hB,hl,hr⟩:=xM (T:=.one) (fe:=lR) (fs:=[some (.im (.str abc)),some (.ce b)]) (fun i C1=>Bf L C1 b (j + (8 - i))) (fun _ y=>∃c:Nat,y=.str ⟨#[c]⟩∧97≤c∧c≤122) (its:=lJ 0 size.toNat) (C:=C) (k:=0) h (fun i d C1 hd hB=>by
  obtain ⟨rfl,hi⟩:=jM hd
  rw [Nat.zero_add] at hB ⊢
  rw [show j + (8 - i)=j + (8 - (i + 1)) + 1 by omega] at hB
  obtain ⟨k1,C2,e1,a1,b1,oA⟩:=bz (m:=26) hB (by decide) (by decide)
  refine ⟨_,.im (.str ⟨#[97 + k1.toNat]⟩),[some (.im (.int (0 + i))),some (.im (.str abc)),some (.ce b)],C2,.str ⟨#[97 + k1.toNat]⟩,rfl,?_,rfl,⟨_,rfl,by omega,by omega⟩,oA⟩
  simp_arith [jm,List.cons_append,List.nil_append,e1,bf,letters k1 a1 b1])
 rw [jx] at hB hl
 obtain ⟨cs,rfl,hcs⟩:∃cs:List Nat,ys=cs.map (fun c=>.str ⟨#[c]⟩)∧∀c∈cs,97≤c∧c≤122:=by
  clear e hl hB
  induction ys with
  | nil=>exact ⟨[],rfl,fun _ m=>(nomatch m)⟩
  | cons y ys ih=>
   obtain ⟨c,rfl,c1,c2⟩:=hr 0 y rfl
   obtain ⟨cs,rfl,h2⟩:=ih fun i z hz=>hr (i + 1) z (by simpa using hz)
   exact ⟨c::cs,rfl,fun x hx=>by
    rcases List.mem_cons.mp hx with rfl | hx
    ·exact ⟨c1,c2⟩
    ·exact h2 x hx⟩
 exact ⟨cs,C',e,by simpa using hl,hcs,hB.mono (Nat.le_add_right _ _)⟩
theorem Q3 {C:Ce} {z:Str} (hz:z.length≤8):cQ .one fY rW [some (.im (.str z))] (chars abc) C=some (((List.range 26).map (j9 z)).map .str,C):=by
 rw [nP (fun _=>true) (fun d=>match d with | .str c=>.str (Txt.slice z none (some 7)++c) | _=>.none) fun d hd=>?_]
 ·rw [xQ,List.filter_eq_self.mpr fun _ _=>rfl,List.map_map,List.map_map]
  rfl
 ·rw [xQ] at hd
  obtain ⟨i,hi,rfl⟩:=List.mem_map.mp hd
  refine ⟨_,rfl,rfl,fun _=>⟨.im (.str (Txt.slice z none (some 7)++⟨#[97 + i]⟩)),[some (.im (.str ⟨#[97 + i]⟩)),some (.im (.str z))],?_,rfl⟩⟩
  have h1:(z.length≤1000000)=True:=eq_true (by omega)
  have h2:((Txt.slice z none (some 7)).length + Str.length ⟨#[97 + i]⟩≤1000000)=True:=eq_true (by
   have:=uY z
   show _ + 1≤_
   omega)
  simp_arith [jm,List.cons_append,List.nil_append,U8,Vx,U7,X6,bH,h1,h2]
theorem Q4 {C:Ce} {cs zs:List Str}:cQ .one rY rZ [some (.im (.list (zs.map .str)))] (cs.map .str) C=some ((cs.filter fun o=>decide (o∉zs)).map .str,C):=by
 refine cV PyData.str (fun o=>decide (o∉zs)) PyData.str fun o _=>⟨[.str o],rfl,?_,fun _=>⟨.im (.str o),_,rfl,rfl⟩⟩
 have hi:o8 (.str o) (.list (zs.map .str))=some (.im (.bool (decide (o∉zs)))):=by
  have:inB (.str o) (.list (zs.map .str))=some (inD (.str o) (zs.map .str)):=if_pos (by rw [qR]; rfl)
  unfold o8
  rw [this,By,Option.map_some,decide_not]
 simp_arith [jm,List.cons_append,List.nil_append,hi]
theorem Q5 {cs:List Nat} (h:cs.length≤100):zq (.str (Str.ofString "")) (.list (cs.map fun c=>.str ⟨#[c]⟩))=some (.im (.str (Txt.join (Str.ofString "") (cs.map fun c=>⟨#[c]⟩)))):=by
 simp only [zq,pP]
 refine if_pos ?_
 rw [List.map_map,G7,Jt,Nat.mul_zero]
 unfold LIM
 omega
theorem Q6 {C:Ce} {b L j:Nat} {v1 v4 v5 v6:Option Vl} {zs:List Str} (h:Bf L C b (j + 12)) (hzs:∀z∈zs,nameB z=true) (hl:zs.length < 26):
  ∃z C' w5 w6,iM [some (.ce b),v1,some (.im (.str abc)),some (.ow (.list (zs.map .str))),v4,v5,v6] C=some (.nx,[some (.ce b),v1,some (.im (.str abc)),some (.ow (.list ((zs++[z]).map .str))),v4,w5,w6],C')∧nameB z=true∧z∉zs∧Bf L C' b j:=by
 obtain ⟨k1,C1,e1,a1,b1,oA⟩:=bz (m:=3) h (by decide) (by decide)
 obtain ⟨size,s0,s1,es⟩:∃size:Int,1≤size∧size≤8∧gC [PyData.int 1,.int 8,.int 2] k1=some (.int size):=by
  have hk:k1=0∨k1=1∨k1=2:=by omega
  rcases hk with rfl | rfl | rfl
  ·exact ⟨1,by omega,by omega,rfl⟩
  ·exact ⟨8,by omega,by omega,rfl⟩
  ·exact ⟨2,by omega,by omega,rfl⟩
 obtain ⟨cs,C2,e2,cl,hc,hB2⟩:=Q0 (j:=j + 3) oA (by omega:0≤size) s1
 have hj:=Q5 (cs:=cs) (by omega)
 have hz0:=Jk (l:=cs) (by omega) (by omega) hc
 obtain ⟨z0,Zt⟩:∃z,z=Txt.join (Str.ofString "") (cs.map fun c=>⟨#[c]⟩):=⟨_,rfl⟩
 rw [←Zt] at hj hz0
 obtain ⟨k3,C3,e3,a3,b3,hB3⟩:=bz (m:=3) hB2 (by decide) (by decide)
 obtain ⟨z1,C4,t4,hz1,Oa⟩:∃z1 C4,j7 (jY (fTst (aG o6 (az (fCal aJ (aCons (fVar 0) (aCons (fCst (.int 3)) aNil)))) (az (fCst (.int 0))))) (fTst (aG sS (aF 3) (az (fLst aNil))))) (fSet 6 (aG bH (az (U8 (az (aG bf (aF 3) (az (fCal aJ (aCons (fVar 0) (aCons (fFun iI (bCons (aF 3) bNil)) aNil)))))) Vx (U7 (az (fCst (.int 7)))))) (az (aG bf (aF 2) (az (fCal aJ (aCons (fVar 0) (aCons (fCst (.int 26)) aNil)))))))) fNext [some (.ce b),v1,some (.im (.str abc)),some (.ow (.list (zs.map .str))),v4,some (.im (.int size)),some (.im (.str z0))] C2
   =some (.nx,[some (.ce b),v1,some (.im (.str abc)),some (.ow (.list (zs.map .str))),v4,some (.im (.int size)),some (.im (.str z1))],C4)∧nameB z1=true∧Bf L C4 b j:=by
  have ne:=ne_nil zs hzs
  by_cases hk:k3=0
  ·subst hk
   cases zs with
   | nil=>
    rw [List.map_nil] at ne
    exact ⟨z0,C3,by simp_arith [e3,ne,List.isEmpty_nil],hz0,hB3.mono (Nat.le_add_right _ 2)⟩
   | cons y ys=>
    rw [List.length_cons] at hl
    obtain ⟨k5,C5,e5,a5,b5,Xk⟩:=bz (m:=(ys.length:Int) + 1) hB3 (by omega) (by omega)
    obtain ⟨k6,C6,e6,a6,b6,Q7⟩:=bz (m:=26) Xk (by decide) (by decide)
    obtain ⟨x,mx,_,ix⟩:=QH (zs:=y::ys) a5 (by rw [List.length_cons]; omega)
    have nx:=hzs x mx
    have n8:=(uZ nx).2.1
    have c7:=uY x
    have h1:(x.length≤1000000)=True:=eq_true (by omega)
    have h2:bH (.str (Txt.slice x none (some 7))) (.str ⟨#[97 + k6.toNat]⟩)=some (.im (.str (j9 x k6.toNat))):=if_pos (by show _ + 1≤1000000; omega)
    refine ⟨j9 x k6.toNat,C6,?_,xN nx (by omega),Q7⟩
    rw [List.map_cons] at ne ix ⊢
    have ix2:=ix
    unfold bf at ix2
    have e5':aJ [.ce b,.im (.int ((ys.length + 1:Nat):Int))] C3=some (.im (.int k5),C5):=e5
    simp_arith [e3,ne,List.isEmpty_cons,e5',ix2,bf,letters k6 a6 b6,e6,U8,Vx,U7,X6,h1,h2]
  ·have hk':(k3==0)=false:=beq_eq_false_iff_ne.mpr hk
   exact ⟨z0,C3,by simp_arith [e3,hk'],hz0,hB3.mono (Nat.le_add_right _ 2)⟩
 obtain ⟨k,hk,hnew⟩:=MF z1 hl
 have n8:=(uZ hz1).2.1
 generalize hcs:z1::(List.range 26).map (j9 z1)=ca
 have hlc:ca.length=27:=by rw [←hcs]; simp
 have mem:j9 z1 k∈ca.filter fun o=>decide (o∉zs):=List.mem_filter.mpr ⟨by rw [←hcs]; exact List.mem_cons_of_mem _ (List.mem_map.mpr ⟨k,List.mem_range.mpr hk,rfl⟩),decide_eq_true hnew⟩
 cases hf:ca.filter fun o=>decide (o∉zs) with
 | nil=>rw [hf] at mem; cases mem
 | cons z' r=>
  have mz:z'∈ca.filter fun o=>decide (o∉zs):=by rw [hf]; exact List.mem_cons_self
  obtain ⟨m1,m2⟩:=List.mem_filter.mp mz
  refine ⟨z',C4,some (.im (.int size)),some (.im (.str z1)),?_,?_,of_decide_eq_true m2,Oa⟩
  ·have f1:=Q3 (C:=C4) n8
   have f2:=Q4 (C:=C4) (cs:=ca) (zs:=zs)
   rw [hf] at f2
   have f3:bH (.list [.str z1]) (.list (((List.range 26).map (j9 z1)).map .str))=some (.ow (.list (ca.map .str))):=by
    rw [←hcs]
    exact add_l (xs:=[.str z1]) (by simp)
   have lf:(z'::r).length≤27:=by rw [←hf,←hlc]; exact List.length_filter_le _ _
   rw [List.length_cons] at lf
   have g1:((List.range 26).length≤1000000)=True:=eq_true (by simp)
   have g2:(r.length + 1≤1000000)=True:=eq_true (by omega)
   have g3:(zs.length < 1000000)=True:=eq_true (by omega)
   have g4:=noLs_strs (z'::r)
   have g5:(size.toNat≤1000000)=True:=eq_true (by omega)
   rw [List.map_cons] at f2 g4
   simp_arith [iM,e1,es,G5,zR,BR (m:=size) (by omega) (by omega),cl,vo,e2,g5,hj,↓t4,f1,f2,f3,g1,g2,g3,g4,j8,lF,List.map_append]
  ·rw [←hcs] at m1
   rcases List.mem_cons.mp m1 with rfl | m1
   ·exact hz1
   ·obtain ⟨i,hi,rfl⟩:=List.mem_map.mp m1
    exact xN hz1 (List.mem_range.mp hi)
theorem Nj {C:Ce} {b L j:Nat} {m:Int} (h:Bf L C b (j + 240)) (h0:0≤m) (h1:m≤20):
  ∃(zs:List Str) (C':Ce),lU [.ce b,.im (.int m)] C=some (.ow (.list (zs.map .str)),C')∧Names zs∧zs.length=m.toNat∧Bf L C' b j:=by
 obtain ⟨env',C',e,zs,v4,v5,v6,he,hl,hN,hB⟩:=cA (g:=gNm 4) (body:=iM) (its:=lJ 0 m.toNat) (env:=[some (.ce b),some (.im (.int m)),some (.im (.str abc)),some (.ow (.list [])),none,none,none]) (C:=C)
  (fun i env C1=>∃(zs:List Str) (v4 v5 v6:Option Vl),env=[some (.ce b),some (.im (.int m)),some (.im (.str abc)),some (.ow (.list (zs.map .str))),v4,v5,v6]∧zs.length=i∧Names zs∧Bf L C1 b (j + 12 * (20 - i)))
  ⟨[],none,none,none,rfl,rfl,⟨List.nodup_nil,fun _ m=>(nomatch m)⟩,h⟩ (fun i d env C1 hd hI=>by
   obtain ⟨zs,v4,v5,v6,rfl,hl,hN,hB⟩:=hI
   obtain ⟨rfl,hi⟩:=jM hd
   rw [show j + 12 * (20 - i)=j + 12 * (20 - (i + 1)) + 12 by omega] at hB
   obtain ⟨z,C2,w5,w6,e,nz,nm,hB2⟩:=Q6 (v1:=some (.im (.int m))) (v4:=some (.im (.int (0 + i)))) (v5:=v5) (v6:=v6) hB hN.2 (by omega)
   refine ⟨_,.nx,_,C2,rfl,e,.inl rfl,zs++[z],_,w5,w6,rfl,by simp [hl],⟨?_,fun y hy=>?_⟩,hB2⟩
   ·rw [List.nodup_append]
    refine ⟨hN.1,by simp,fun x hx y hy e=>?_⟩
    rw [List.mem_singleton.mp hy] at e
    exact nm (e ▸ hx)
   ·rcases List.mem_append.mp hy with hy | hy
    ·exact hN.2 y hy
    ·rw [List.mem_singleton.mp hy]; exact nz)
 rw [jx] at hl hB
 subst he
 refine ⟨zs,C',dH [some (.ce b),some (.im (.int m)),none,none,none,none,none] rfl rfl ?_ rfl (h.eq hB),hN,hl,hB.mono (Nat.le_add_right _ _)⟩
 simp_arith [vD,fD,zR,BR (m:=m) (by omega) (by omega),e]
theorem Nk {C:Ce} {b L j:Nat} {zs:List Str} (h:Bf L C b (j + 10)) (hz:8≤zs.length):
  ∃(ps:List (Str×Str)) (C':Ce),lW [.ce b,.im (.list (zs.map .str))] C=some (.ow (.list (ps.map bJ)),C')∧bO zs ps∧1≤ps.length∧ps.length≤8∧Bf L C' b j:=by
 obtain ⟨m,C1,e1,a1,b1,oA⟩:=pZ (m:=8) (j:=j + 8) h (by decide) (by decide)
 obtain ⟨M,hM,M1,M8⟩:∃M:Int,(if m > 1 then m else 1)=M∧1≤M∧M≤8:=⟨_,rfl,by split <;> omega,by split <;> omega⟩
 obtain ⟨env',C',e,ps,v3,he,hl,hP,hB⟩:=cA (g:=gNm 3) (body:=lV) (its:=lJ 0 M.toNat) (env:=[some (.ce b),some (.im (.list (zs.map .str))),some (.ow (.list [])),none]) (C:=C1)
  (fun i env C2=>∃(ps:List (Str×Str)) (v3:Option Vl),env=[some (.ce b),some (.im (.list (zs.map .str))),some (.ow (.list (ps.map bJ))),v3]∧ps.length=i∧bO zs ps∧Bf L C2 b (j + (8 - i)))
  ⟨[],none,rfl,rfl,(fun i x e=>by simp at e),oA⟩ (fun i d env C2 hd hI=>by
   obtain ⟨ps,v3,rfl,hl,hP,hB⟩:=hI
   obtain ⟨rfl,hi⟩:=jM hd
   rw [show j + (8 - i)=j + (8 - (i + 1)) + 1 by omega] at hB
   obtain ⟨k,C3,e2,a2,b2,hB2⟩:=bz (m:=0 + (i:Int) + 1) hB (by omega) (by omega)
   obtain ⟨z,_,hz1,iz⟩:=eN (zs:=zs) (k:=0 + (i:Int)) (by omega) (by omega)
   have hz2:zs[ps.length]?=some z:=by rw [hl]; rw [show ((0:Int) + (i:Int)).toNat=i by omega] at hz1; exact hz1
   obtain ⟨y,my,hy1,iy⟩:=eN (zs:=Str.ofString ""::ps.map (·.1)) (k:=k) a2 (by rw [List.length_cons,List.length_map,hl]; omega)
   have hy2:y=Str.ofString ""∨∃j,j < ps.length∧zs[j]?=some y:=by
    rcases List.mem_cons.mp my with rfl | my
    ·exact .inl rfl
    ·obtain ⟨x,hx,rfl⟩:=List.mem_map.mp my
     obtain ⟨j,hj,rfl⟩:=List.getElem_of_mem hx
     exact .inr ⟨j,hj,(hP j ps[j] (List.getElem?_eq_getElem hj)).1⟩
   have t1:=xR (fe:=sr) (C:=C2) (ps:=ps) rfl
   have t2:bH (.list [.str (Str.ofString "")]) (.list ((ps.map (·.1)).map .str))=some (.ow (.list ((Str.ofString ""::ps.map (·.1)).map .str))):=add_l (xs:=[.str (Str.ofString "")]) (by rw [List.length_map,List.length_map]; show 1 + ps.length≤_; omega)
   have g1:(ps.length≤1000000)=True:=eq_true (by omega)
   have g2:(ps.length < 1000000)=True:=eq_true (by omega)
   refine ⟨_,.nx,[some (.ce b),some (.im (.list (zs.map .str))),some (.ow (.list ((ps++[(z,y)]).map bJ))),some (.im (.int (0 + i)))],C3,rfl,?_,.inl rfl,ps++[(z,y)],_,rfl,by simp [hl],hP.snoc hz2 hy2,hB2⟩
   rw [List.map_cons] at iy t2
   simp_arith [lV,iz,t1,t2,g1,g2,e2,iy,j8,lF,List.map_append]
   rfl)
 rw [jx] at hl hB
 subst he
 refine ⟨ps,C',dH [some (.ce b),some (.im (.list (zs.map .str))),none,none] rfl rfl ?_ rfl (h.eq hB),hP,by omega,by omega,hB.mono (Nat.le_add_right _ _)⟩
 simp_arith [vG,fD,zR,e1,qK,hM,BR (m:=M) (by omega) (by omega),e]
theorem Hs {b L j:Nat} {C:Ce} (h:Bf L C b (j + 2)):
  ∃k m t C1 C',aJ [.ce b,.im (.int 2)] C=some (.im (.int k),C1)∧gC [PyData.int 9,.int 3] k=some (.int m)∧aJ [.ce b,.im (.int m)] C1=some (.im (.int t),C')∧1≤1 + t∧1 + t≤9∧Bf L C' b j:=by
 obtain ⟨k,C1,e1,a1,b1,oA⟩:=bz (m:=2) h (by decide) (by decide)
 obtain ⟨m,m0,m9,em⟩:∃m:Int,3≤m∧m≤9∧gC [PyData.int 9,.int 3] k=some (.int m):=by
  have hk:k=0∨k=1:=by omega
  rcases hk with rfl | rfl
  ·exact ⟨9,by omega,by omega,rfl⟩
  ·exact ⟨3,by omega,by omega,rfl⟩
 obtain ⟨t,C2,e2,a2,b2,hB2⟩:=bz (m:=m) oA (by omega) (by omega)
 exact ⟨k,m,t,C1,C2,e1,em,e2,by omega,by omega,hB2⟩
theorem Ep {C:Ce} {b L j:Nat} {num:Int} {zs own:List Str} {ps rk lv ru env} (hE:HE b zs ps own rk lv ru env) (h:Bf L C b (j + 20)) (h9:zs.length=9) (ho:0 < own.length) (ho8:own.length≤8) (hnum:0≤num∧num≤2000) (hl:rk.length < 1000):
  ∃r e1 env' C',gNm 7 (.int num) env=some e1∧iU e1 C=some (.nx,env',C')∧HE b zs ps own (rk++[r]) lv ru env'∧Ed zs own r∧r.1=num∧Bf L C' b j:=by
 cases hE with
 | mk v7 v8 v9 v10 v11 Ju N6 N7 N8 JG JH Hi=>
 obtain ⟨d1,C1,e1,a1,b1,oA⟩:=vO (j:=j + 16) h
 obtain ⟨d2,C2,e2,a2,b2,hB2⟩:=vO (j:=j + 12) oA
 obtain ⟨lo,hi,es,h1,h2,h3⟩:=Sq d1 d2
 have x1:0≤lo:=by omega
 have x2:hi≤99999:=by omega
 obtain ⟨k1,C3,e3,a3,b3,hB3⟩:=bz (m:=9) hB2 (by decide) (by decide)
 obtain ⟨who,m1,_,i1⟩:=eN (zs:=zs) a3 (by omega)
 obtain ⟨k2,C4,e4,a4,b4,Oa⟩:=bz (m:=own.length) hB3 (by omega) (by omega)
 obtain ⟨wh,m2,_,i2⟩:=eN (zs:=own) a4 (by omega)
 obtain ⟨k,m,t,C5,C6,e5,em,e6,t1,t9,Q7⟩:=Hs (j:=j + 8) Oa
 have g:(rk.length < 1000000)=True:=eq_true (by omega)
 refine ⟨(num,who,1 + t,wh,lo,hi),_,Eh b zs ps own (rk++[(num,who,1 + t,wh,lo,hi)]) lv ru (some (.im (.int num))) (some (.ow (.list [.int lo,.int hi]))) (some (.im (.str who))) (some (.im (.str wh))) v11 Ju N6 N7 N8 JG JH Hi,C6,rfl,?_,.mk ..,⟨hnum,m1,⟨t1,t9⟩,m2,⟨x1,h1,x2⟩⟩,rfl,Q7.mono (Nat.le_add_right _ _)⟩
 simp_arith [iU,Eh,e1,e2,es,e3,i1,e4,i2,e5,em,e6,g,j8,lF,List.map_append]
 rfl
theorem Cg {C:Ce} {b L j:Nat} {num:Int} {zs own:List Str} {ps rk lv ru env} (hE:HE b zs ps own rk lv ru env) (h:Bf L C b (j + 20)) (h9:zs.length=9) (hz:zs.Nodup) (ho:0 < own.length) (ho8:own.length≤8) (hnum:0≤num∧num≤2000) (hl:lv.length < 1000):
  ∃r e1 env' C',gNm 7 (.int num) env=some e1∧iT e1 C=some (.nx,env',C')∧HE b zs ps own rk (lv++[r]) ru env'∧zA zs own r∧r.1=num∧Bf L C' b j:=by
 cases hE with
 | mk v7 v8 v9 v10 v11 Ju N6 N7 N8 JG JH Hi=>
 obtain ⟨d1,C1,e1,a1,b1,oA⟩:=vO (j:=j + 16) h
 obtain ⟨d2,C2,e2,a2,b2,hB2⟩:=vO (j:=j + 12) oA
 obtain ⟨lo,hi,es,h1,h2,h3⟩:=Sq d1 d2
 have x1:0≤lo:=by omega
 have x2:hi≤99999:=by omega
 obtain ⟨at_,C3,e3,c1,c2,hB3⟩:=bz (m:=9) hB2 (by decide) (by decide)
 obtain ⟨t,C4,e4,c3,c4,Oa⟩:=bz (m:=8) hB3 (by decide) (by decide)
 have q0:0≤(at_ + 1 + t) % 9:=Int.emod_nonneg _ (by omega)
 have q1:(at_ + 1 + t) % 9 < 9:=Int.emod_lt_of_pos _ (by omega)
 have q2:(at_ + 1 + t) % 9≠at_:=by omega
 obtain ⟨tk,mt,ht,it⟩:=eN (zs:=zs) q0 (by omega)
 obtain ⟨gv,mg,hg,ig⟩:=eN (zs:=zs) c1 (by omega)
 have hne:gv≠tk:=fun z=>by
  subst z
  obtain ⟨x1,y1⟩:=List.getElem?_eq_some_iff.mp ht
  obtain ⟨x2,y2⟩:=List.getElem?_eq_some_iff.mp hg
  rcases Nat.lt_trichotomy ((at_ + 1 + t) % 9).toNat at_.toNat with hlt | heq | hgt
  ·exact List.pairwise_iff_getElem.mp hz _ _ x1 x2 hlt (y1.trans y2.symm)
  ·omega
  ·exact List.pairwise_iff_getElem.mp hz _ _ x2 x1 hgt (y2.trans y1.symm)
 obtain ⟨k2,C5,e5,a5,b5,Xk⟩:=bz (m:=own.length) Oa (by omega) (by omega)
 obtain ⟨wh,m2,_,i2⟩:=eN (zs:=own) a5 (by omega)
 obtain ⟨mo,C6,e6,o1,o2,Q7⟩:=Ni (j:=j + 5) Xk
 have g:(lv.length < 1000000)=True:=eq_true (by omega)
 refine ⟨(num,gv,tk,wh,lo,hi,mo),_,Eh b zs ps own rk (lv++[(num,gv,tk,wh,lo,hi,mo)]) ru (some (.im (.int num))) (some (.ow (.list [.int lo,.int hi]))) v9 (some (.im (.str wh))) (some (.im (.int at_))) (some (.im (.str tk))) N6 N7 N8 JG JH Hi,C6,rfl,?_,.mk ..,⟨hnum,mg,mt,hne,m2,⟨x1,h1,x2⟩,⟨o1,o2⟩⟩,rfl,Q7.mono (Nat.le_add_right _ _)⟩
 simp_arith [iT,Eh,e1,e2,es,e3,e4,mod_eq (i:=at_ + 1 + t) (j:=9) (by omega),it,e5,i2,ig,e6,g,j8,lF,List.map_append]
 rfl
theorem Er {C:Ce} {b L j:Nat} {zs own:List Str} {rs:List cR} {ps rk lv env} {num:PyData} (hE:HE b zs ps own rk lv (cB rs) env) (h:Bf L C b (j + 40)) (ho:0 < own.length) (ho8:own.length≤8) (hl:rs.length < 1000) (hr:∀r∈rs,nR own r) (nd:(rs.map JK).Nodup):
  ∃(rs':List cR) (e1 env':En) (C':Ce),gNm 13 num env=some e1∧iR e1 C=some (.nx,env',C')∧HE b zs ps own rk lv (cB rs') env'∧(∀r∈rs',nR own r)∧(rs'.map JK).Nodup∧rs'.length≤rs.length + 1∧Bf L C' b j:=by
 cases hE with
 | mk v7 v8 v9 v10 v11 Ju N6 N7 N8 JG JH Hi=>
 obtain ⟨k2,C1,e1,a1,b1,oA⟩:=bz (m:=own.length) h (by omega) (by omega)
 obtain ⟨wh,m1,_,i1⟩:=eN (zs:=own) a1 (by omega)
 obtain ⟨sm,C2,e2,o1,o2,hB2⟩:=Ni (j:=j + 35) oA
 obtain ⟨m,C3,e3,m0,m6,hB3⟩:=pZ (m:=6) (j:=j + 33) hB2 (by decide) (by decide)
 obtain ⟨env',C4,e,ss,w16,w17,he,hl',hS,hB⟩:=cA (g:=gNm 16) (body:=lX) (its:=lJ 0 m.toNat) (env:=Eh b zs ps own rk lv (cB rs) v7 v8 v9 v10 v11 Ju (some (.im num)) (some (.im (fH wh sm))) (some (.ow (.list []))) JG JH Hi) (C:=C3)
  (fun i env C1=>∃(ss:List ni) (w16 w17:Option Vl),env=Eh b zs ps own rk lv (cB rs) v7 v8 v9 v10 v11 Ju (some (.im num)) (some (.im (fH wh sm))) (some (.ow (.list (ss.map nj)))) w16 w17 Hi∧ss.length=i∧(∀s∈ss,MJ own s)∧Bf L C1 b (j + 15 + 3 * (6 - i)))
  ⟨[],JG,JH,rfl,rfl,(fun _ m=>nomatch m),hB3⟩ (fun i d env C1 hd hI=>by
   obtain ⟨ss,w16,w17,rfl,hl,hS,hB⟩:=hI
   obtain ⟨rfl,hi⟩:=jM hd
   rw [show j + 15 + 3 * (6 - i)=j + 15 + 3 * (6 - (i + 1)) + 3 by omega] at hB
   obtain ⟨k,C2,e1,a1,b1,oA⟩:=bz (m:=2 + own.length) hB (by omega) (by omega)
   obtain ⟨pt,mp,_,ip⟩:=eN (zs:=Str.ofString ""::Str.ofString ""::own) (k:=k) a1 (by rw [List.length_cons,List.length_cons]; omega)
   have t2:bH (.list [.str (Str.ofString ""),.str (Str.ofString "")]) (.list (own.map .str))=some (.ow (.list ([PyData.str (Str.ofString ""),.str (Str.ofString "")]++own.map .str))):=add_l (by rw [List.length_map]; show 2 + own.length≤_; omega)
   rw [List.map_cons,List.map_cons] at ip
   obtain ⟨q,qm,t,C5,C6,e5,em,e6,t1,t9,Q7⟩:=Hs oA
   have g:(ss.length < 1000000)=True:=eq_true (by omega)
   refine ⟨_,.nx,Eh b zs ps own rk lv (cB rs) v7 v8 v9 v10 v11 Ju (some (.im num)) (some (.im (fH wh sm))) (some (.ow (.list ((ss++[(1 + t,pt)]).map nj)))) (some (.im (.int (0 + i)))) (some (.im (.str pt))) Hi,C6,rfl,?_,.inl rfl,ss++[(1 + t,pt)],_,_,rfl,by simp [hl],fun s hs=>?_,Q7⟩
   ·simp_arith [lX,Eh,t2,e1,List.cons_append,List.nil_append,ip,e5,em,e6,g,j8,lF,List.map_append]
    rfl
   ·rcases List.mem_append.mp hs with hs | hs
    ·exact hS s hs
    ·rw [List.mem_singleton.mp hs]
     refine ⟨t1,t9,?_⟩
     rcases List.mem_cons.mp mp with e | mp
     ·exact .inl e
     ·rcases List.mem_cons.mp mp with e | mp
      ·exact .inl e
      ·exact .inr mp)
 rw [jx] at hl' hB
 subst he
 have s6:ss.length≤6:=by omega
 obtain ⟨p1,p2,p3⟩:=QK hr (p:=wh) (s:=sm) (ss:=ss) ⟨m1,⟨o1,o2⟩,s6,hS⟩ nd
 have pk:=Vi rs wh sm ss
 unfold fH at e pk
 unfold di at pk
 have g:((cB rs).length < 1000000)=True:=eq_true (by unfold cB; rw [List.length_map]; omega)
 refine ⟨BV rs wh sm ss,_,Eh b zs ps own rk lv (cB (BV rs wh sm ss)) v7 v8 v9 v10 v11 Ju (some (.im num)) (some (.im (fH wh sm))) (some (.ow (.list (ss.map nj)))) w16 w17 Hi,C4,rfl,?_,.mk ..,p1,p2,p3,hB.mono (by omega)⟩
 simp only [Eh] at e
 simp_arith [iR,Eh,e1,i1,e2,fD,zR,e3,BR (m:=m) (by omega) (by omega),e,gK,wj,uK,pk,g,fH]
theorem Q8 {en:En} {C:Ce} {rs:List cR} (h6:en[6]?=some (some (.ow (.dict (cB rs))))) (hl:rs.length≤10) (hn:(rs.map JK).Nodup):
  ∃rs':List cR,rs'.Perm rs∧fLC (iB (az (fFun cX (bCons (aF 6) bNil)))) .one fY iQ [6] en C=some (.ow (.list (rs'.map iJ)),en,C):=by
 obtain ⟨rs',p,e⟩:=QL rs hl
 refine ⟨rs',p,?_⟩
 have g:(rs'.length≤1000000)=True:=eq_true (by rw [p.length_eq]; omega)
 have key:cQ .one fY iQ [some (.im (.dict (cB rs)))] (rs'.map fun r=>fH r.1 r.2.1) C=some (rs'.map iJ,C):=by
  have:=cV (T:=.one) (ft:=fY) (fe:=iQ) (fs:=[some (.im (.dict (cB rs)))]) (C:=C) (fun r:cR=>fH r.1 r.2.1) (fun _=>true) iJ (l:=rs') fun r hr=>⟨[fH r.1 r.2.1],rfl,rfl,fun _=>⟨.im (iJ r),[some (.im (fH r.1 r.2.1)),some (.im (.dict (cB rs)))],by
   have i:=Xj (p.mem_iff.mp hr) hn
   unfold fH at i ⊢
   have a:bH (.tuple [.str r.1,.int r.2.1]) (.tuple [di r.2.2])=some (.im (iJ r)):=Su (by show 2 + 1≤_; omega)
   simp_arith [jm,List.cons_append,List.nil_append,i,a],rfl⟩⟩
  rw [List.filter_eq_self.mpr fun _ _=>rfl] at this
  exact this
 simp_arith [h6,e,key,g,xU]
theorem Nm {C:Ce} {b L j:Nat} {zs:List Str} (h:Bf L C b (j + 1536)) (h9:zs.length=9) (hz:zs.Nodup):
  ∃(ps:List (Str×Str)) (ht:dj) (C':Ce),lY [.ce b,.im (.list (zs.map .str))] C=some (.im (.tuple [.list (ps.map bJ),bU ht]),C')∧bO zs ps∧1≤ps.length∧eG zs ps ht∧Bf L C' b j:=by
 obtain ⟨ps,C1,e1,hP,p1,p8,oA⟩:=Nk (zs:=zs) (j:=j + 1526) h (by omega)
 have f1:=xR (fe:=su) (C:=C1) (ps:=ps) rfl
 have g1:(ps.length≤1000000)=True:=eq_true (by omega)
 obtain ⟨own,Np⟩:∃own,own=ps.map (·.1):=⟨_,rfl⟩
 have ol:own.length=ps.length:=by rw [Np,List.length_map]
 rw [←Np] at f1
 obtain ⟨m2,C2,e2,a2,b2,hB2⟩:=pZ (m:=20) (j:=j + 1524) oA (by decide) (by decide)
 obtain ⟨Zu,C3,e3,a3,r3,u3,hB3⟩:=vP (m:=m2) (j:=j + 1324) hB2 a2 (by omega)
 obtain ⟨Zv,C4,e4,rk,hE4,Yc,hR4,Oa⟩:=cA (g:=gNm 7) (body:=iU) (its:=Zu.map .int) (env:=Eh b zs ps own [] [] [] none none none none none none none none none none none none) (C:=C3)
  (fun i env C'=>∃rk:List cY,HE b zs ps own rk [] [] env∧rk.map (·.1)=Zu.take i∧(∀r∈rk,Ed zs own r)∧Bf L C' b (j + 924 + 20 * (20 - i)))
  ⟨[],.mk ..,rfl,(fun _ m=>nomatch m),hB3⟩ (fun i d env C1 hd hI=>by
   obtain ⟨rk,hE,hm,hR,hB⟩:=hI
   have ach:i < 20:=by have:=(List.getElem?_eq_some_iff.mp hd).1; rw [List.length_map] at this; omega
   rw [show j + 924 + 20 * (20 - i)=j + 924 + 20 * (20 - (i + 1)) + 20 by omega] at hB
   obtain ⟨x,rfl,hx,mx,hi⟩:=Hl hd
   have hrk:rk.length=i:=by
    have:=congrArg List.length hm
    rw [List.length_map,List.length_take] at this
    omega
   obtain ⟨r,e1,env',C2,g1,g2,Xl,r1,r2,oA⟩:=Ep (num:=x) hE hB h9 (by omega) (by omega) (r3 x mx) (by omega)
   refine ⟨e1,.nx,env',C2,g1,g2,.inl rfl,rk++[r],Xl,?_,fun y hy=>?_,oA⟩
   ·rw [List.map_append,hm,take_snoc hx]
    show _++[r.1]=_
    rw [r2]
   ·rcases List.mem_append.mp hy with hy | hy
    ·exact hR y hy
    ·rw [List.mem_singleton.mp hy]; exact r1)
 rw [List.length_map] at Yc Oa
 rw [List.take_length] at Yc
 have hrk:rk.length=Zu.length:=by rw [←Yc,List.length_map]
 obtain ⟨m5,C5,e5,a5,b5,Xk⟩:=pZ (m:=16) (j:=j + 922) (Oa.mono (Nat.le_add_right _ _)) (by decide) (by decide)
 obtain ⟨Zw,C6,e6,a6,r6,u6,Q7⟩:=vP (m:=m5) (j:=j + 722) Xk a5 (by omega)
 obtain ⟨Zx,C7,e7,lv,hE7,Yd,hR7,hB7⟩:=cA (g:=gNm 7) (body:=iT) (its:=Zw.map .int) (env:=Zv) (C:=C6)
  (fun i env C'=>∃lv:List nQ,HE b zs ps own rk lv [] env∧lv.map (·.1)=Zw.take i∧(∀r∈lv,zA zs own r)∧Bf L C' b (j + 402 + 20 * (16 - i)))
  ⟨[],hE4,rfl,(fun _ m=>nomatch m),Q7⟩ (fun i d env C1 hd hI=>by
   obtain ⟨rk,hE,hm,hR,hB⟩:=hI
   have acj:i < 16:=by have:=(List.getElem?_eq_some_iff.mp hd).1; rw [List.length_map] at this; omega
   rw [show j + 402 + 20 * (16 - i)=j + 402 + 20 * (16 - (i + 1)) + 20 by omega] at hB
   obtain ⟨x,rfl,hx,mx,hi⟩:=Hl hd
   have hrk:rk.length=i:=by
    have:=congrArg List.length hm
    rw [List.length_map,List.length_take] at this
    omega
   obtain ⟨r,e1,env',C2,g1,g2,Xl,r1,r2,oA⟩:=Cg (num:=x) hE hB h9 hz (by omega) (by omega) (r6 x mx) (by omega)
   refine ⟨e1,.nx,env',C2,g1,g2,.inl rfl,rk++[r],Xl,?_,fun y hy=>?_,oA⟩
   ·rw [List.map_append,hm,take_snoc hx]
    show _++[r.1]=_
    rw [r2]
   ·rcases List.mem_append.mp hy with hy | hy
    ·exact hR y hy
    ·rw [List.mem_singleton.mp hy]; exact r1)
 rw [List.length_map] at Yd hB7
 rw [List.take_length] at Yd
 have hlv:lv.length=Zw.length:=by rw [←Yd,List.length_map]
 obtain ⟨m8,C8,e8,a8,b8,hB8⟩:=pZ (m:=10) (j:=j + 400) (hB7.mono (Nat.le_add_right _ _)) (by decide) (by decide)
 obtain ⟨ack,C9,e9,rs,hE9,hm9,hR9,hN9,hB9⟩:=cA (g:=gNm 13) (body:=iR) (its:=lJ 0 m8.toNat) (env:=Zx) (C:=C8)
  (fun i env C'=>∃rs:List cR,HE b zs ps own rk lv (cB rs) env∧rs.length≤i∧(∀r∈rs,nR own r)∧(rs.map JK).Nodup∧Bf L C' b (j + 40 * (10 - i)))
  ⟨[],hE7,Nat.le_refl 0,(fun _ m=>nomatch m),List.nodup_nil,hB8⟩ (fun i d env C1 hd hI=>by
   obtain ⟨rs,hE,hm,hR,hN,hB⟩:=hI
   obtain ⟨rfl,hi⟩:=jM hd
   rw [show j + 40 * (10 - i)=j + 40 * (10 - (i + 1)) + 40 by omega] at hB
   obtain ⟨rs',e1,env',C2,g1,g2,Xl,r1,r2,r3,oA⟩:=Er (num:=.int (0 + i)) hE hB (by omega) (by omega) (by omega) hR hN
   exact ⟨e1,.nx,env',C2,g1,g2,.inl rfl,rs',Xl,by omega,r1,r2,oA⟩)
 rw [jx] at hm9 hB9
 cases hE4
 cases hE7
 cases hE9 with
 | mk v7 v8 v9 v10 v11 Ju N6 N7 N8 JG JH Hi=>
 obtain ⟨rs',q1,e10⟩:=Q8 (C:=C9) (en:=Eh b zs ps own rk lv (cB rs) v7 v8 v9 v10 v11 Ju N6 N7 N8 JG JH Hi) rfl (by omega) hN9
 obtain ⟨ps',q2,e11⟩:=Ei ps p8
 refine ⟨ps,⟨ps',rk,lv,rs'⟩,C9,dH [some (.ce b),some (.im (.list (zs.map .str))),none,none,none,none,none,none,none,none,none,none,none,none,none,none,none,none,none] rfl rfl ?_ rfl (h.eq hB9),hP,p1,⟨q2,p8,?_,?_,?_,by rw [←Np]; exact hR4,?_,by rw [←Np]; exact hR7,?_,?_,?_⟩,hB9.mono (Nat.le_add_right _ _)⟩
 ·simp only [Eh,List.map_nil] at e4 e7 e9 e10
  simp_arith [vH,e1,f1,g1,ol,uI,e2,e3,fD,e4,e5,e6,e7,zR,e8,BR (m:=m8) (by omega) (by omega),e9,↓e10,e11,gK]
  rfl
 ·show rk.length≤20
  omega
 ·show lv.length≤16
  omega
 ·show rs'.length≤10
  rw [q1.length_eq]; omega
 ·show (rk.map (·.1)).Pairwise _
  rw [Yc]; exact u3
 ·show (lv.map (·.1)).Pairwise _
  rw [Yd]; exact u6
 ·rw [←Np]; exact fun r hr=>hR9 r (q1.mem_iff.mp hr)
 ·exact (q1.map JK).nodup_iff.mpr hN9
theorem Cj {C:Ce}:∀(l q:List (Str×Str)),((q++l).map (·.1)).Nodup→(q++l).length≤8→rO (.many 2) fY gm gn [] (l.map bJ) (fP (gH q)) C=some (fP (gH (q++l)),C)
 | [],q,_,_=>by rw [List.append_nil]; rfl
 | x::l,q,nd,h8=>by
  have ih:=Cj (C:=C) l (q++[x]) (by rw [List.append_assoc]; exact nd) (by rw [List.append_assoc]; exact h8)
  have hx:x.1∉(gH q).map (·.1):=by
   unfold gH
   rw [List.map_map]
   show x.1∉q.map (·.1)
   rw [List.map_append,List.nodup_append] at nd
   exact fun hm=>nd.2.2 _ hm _ List.mem_cons_self rfl
  have hl:(fP (gH q)).length < LIM:=by
   unfold fP gH
   rw [List.length_append] at h8
   rw [List.length_map,List.length_map]
   show _ < 1000000
   omega
  rw [List.map_cons]
  unfold rO
  rw [show RV (.many 2) (bJ x)=some [.str x.1,.str x.2] from rfl]
  show (if (fP (gH q)).length < LIM then rO (.many 2) fY gm gn [] (l.map bJ) (jG cZ (.inr x.1) (.str x.1) (.str x.2) (fP (gH q))) C else none)=_
  rw [if_pos hl,BL hx]
  have e:gH q++[(x.1,.str x.2)]=gH (q++[x]):=by unfold gH; rw [List.map_append]; rfl
  rw [e,ih,List.append_assoc]
  rfl
theorem Q9 {C:Ce} {hs:Option Vl} {q ps:List (Str×Str)} (hl:∀z,cG q z=cG ps z):∀{z:Str} {os:List Str},Over (cG ps) z os→∀(n:Nat) (acc:List Str),os.length < n→acc.length + os.length < 1000→
  ∃z',ji j0 j4 n [hs,some (.im (.str z)),some (.ow (.dict (fP (gH q)))),some (.ow (.list (acc.map .str)))] C=some (.nx,[hs,some (.im (.str z')),some (.ow (.dict (fP (gH q)))),some (.ow (.list ((acc++os).map .str)))],C):=by
 have hin:∀z,yX (.str z) (.dict (fP (gH q)))=some (.im (.bool (cG ps z).isSome)):=fun z=>by
  show ((iG (fP (gH q)) (.str z)).map (·.isSome)).map (fun b=>Vl.im (.bool b))=_
  rw [BZ,hl]
  cases cG ps z <;> rfl
 intro z os ho
 induction ho with
 | @stop z h=>
  intro n acc hn ha
  cases n with
  | zero=>exact absurd hn (Nat.not_lt_zero _)
  | succ n=>
   refine ⟨z,?_⟩
   unfold ji
   simp_arith [hin,h,Option.isSome_none,List.append_nil]
 | @step z y r h _ ih=>
  intro n acc hn ha
  cases n with
  | zero=>exact absurd hn (Nat.not_lt_zero _)
  | succ n=>
   rw [List.length_cons] at hn ha
   obtain ⟨z',e⟩:=ih n (acc++[z]) (by omega) (by rw [List.length_append]; show acc.length + 1 + _ < _; omega)
   refine ⟨z',?_⟩
   have g:(acc.length < 1000000)=True:=eq_true (by omega)
   have i:bf (.dict (fP (gH q))) (.str z)=some (.im (.str y)):=by
    unfold bf NZ
    simp only [BZ,hl,h,Option.map_some]
   simp only [List.map_append,List.map_cons,List.map_nil,List.append_assoc,List.cons_append,List.nil_append] at e ⊢
   unfold ji
   simp_arith [hin,h,Option.isSome_some,g,j8,lF,i,e]
theorem wF {C:Ce} {zs:List Str} {ps:List (Str×Str)} {ht:dj} (hN:Names zs) (hP:bO zs ps) (hG:eG zs ps ht) (z:Str):
  eV [.im (bU ht),.im (.str z)] C=some (.ow (.list ((up ps z).map .str)),C):=by
 have nd:=d7 hN hP
 have nd':(ht.ps.map (·.1)).Nodup:=(hG.parts.map (·.1)).nodup_iff.mpr nd
 have hL:ht.ps.length≤8:=by rw [hG.parts.length_eq]; exact hG.p8
 have t:=Cj (C:=C) ht.ps [] nd' hL
 rw [show fP (gH [])=[] from rfl,List.nil_append] at t
 have hul:=MK ps z
 have h8:=hG.p8
 obtain ⟨z',e⟩:=Q9 (C:=C) (hs:=some (.im (bU ht))) (Eg hG.parts nd) (zB hN hP z) RT [] (by show _ < 100000; omega) (by show 0 + _ < 1000; omega)
 rw [List.map_nil,List.nil_append] at e
 refine dH [some (.im (bU ht)),some (.im (.str z)),none,none] rfl rfl ?_ rfl rfl
 simp_arith [jN,Xa,t,BX,Zi,e]
theorem Es {C:Ce} {zs:List Str} {ps:List (Str×Str)} {ht:dj} (hN:Names zs) (hP:bO zs ps) (hG:eG zs ps ht) (who z:Str) (day:Int):
  jy [.im (bU ht),.im (.str who),.im (.str z),.im (.int day)] C=some (.im (.int (tM ht.aU who (up ps z) day)),C):=by
 have p:=wF (C:=C) hN hP hG z
 obtain ⟨hl,hE⟩:∃l,l=ht.aU.filter (rP who (up ps z) day):=⟨_,rfl⟩
 have t1:cQ (.many 6) jO jP [some (.im (.str who)),some (.im (.list ((up ps z).map .str))),some (.im (.int day))] (ht.aU.map bG) C=some ((hl.map (·.2.2.1)).map .int,C):=by
  have:=cV (T:=.many 6) (ft:=jO) (fe:=jP) (fs:=[some (.im (.str who)),some (.im (.list ((up ps z).map .str))),some (.im (.int day))]) (C:=C) bG (rP who (up ps z) day) (fun r=>.int r.2.2.1) (l:=ht.aU) fun r _=>by
   refine ⟨[.int r.1,.str r.2.1,.int r.2.2.1,.str r.2.2.2.1,.int r.2.2.2.2.1,.int r.2.2.2.2.2],rfl,?_,fun _=>⟨.im (.int r.2.2.1),_,rfl,rfl⟩⟩
   have c:=Xi yU yU (aF 4) (aF 8) (aF 5) (env:=[some (.im (.int r.1)),some (.im (.str r.2.1)),some (.im (.int r.2.2.1)),some (.im (.str r.2.2.2.1)),some (.im (.int r.2.2.2.2.1)),some (.im (.int r.2.2.2.2.2)),some (.im (.str who)),some (.im (.list ((up ps z).map .str))),some (.im (.int day))]) (C:=C) (a:=decide (r.2.2.2.2.1≤day)) (b:=decide (day≤r.2.2.2.2.2)) rfl rfl rfl rfl rfl
   simp_arith [jm,List.cons_append,List.nil_append,c]
   unfold rP
   cases decide (r.2.1=who) <;> cases decide (r.2.2.2.1∈up ps z) <;> rfl
  rw [←hE] at this
  rw [List.map_map]
  exact this
 have hlen:hl.length≤20:=by rw [hE]; exact Nat.le_trans (List.length_filter_le _ _) hG.r20
 have hpos:∀x∈hl.map (·.2.2.1),0≤x:=fun x hx=>by
  obtain ⟨r,hr,rfl⟩:=List.mem_map.mp hx
  rw [hE] at hr
  have:=(hG.aU r (List.mem_filter.mp hr).1).rank
  omega
 have g:(hl.length≤1000000)=True:=eq_true (by omega)
 refine dH [some (.im (bU ht)),some (.im (.str who)),some (.im (.str z)),some (.im (.int day)),none,none] rfl rfl ?_ rfl rfl
 simp_arith [qZ,p,t1,g,G4,vm,Jm hpos]
 rw [hE]
 rfl
theorem Vn {C:Ce} {ns:List Int} {k:Int} (k0:0≤k) (k9:k≤9):∃x y:Int,vC [.sc ns,.im (.int k)] C=some (.ow (.list [.int x,.int y,.int 0]),C)∧0≤x∧0≤y∧y≤3000000000:=by
 obtain ⟨c,hc⟩:∃c:Int,(fSeq (fSet 2 (fCst (.int 0))) (j7 (fTst (aG Lb (aF 1) (az (rN 0)))) (fSet 2 (Mh 0 (aF 1))) fNext)) [some (.sc ns),some (.im (.int k)),none] C=some (.nx,[some (.sc ns),some (.im (.int k)),some (.im (.int c))],C):=by
  by_cases h:k < ns.length
  ·obtain ⟨c,hc,_⟩:=uW (xs:=ns) k0 h
   exact ⟨c,by simp_arith [rN,Mh,h,hc]⟩
  ·exact ⟨0,by simp_arith [rN,h]⟩
 simp only [fSeq,fSet,fCst,List.set_cons_zero,List.set_cons_succ] at hc
 have a0:0≤(if c < 0 then -c else c):=by split <;> omega
 obtain ⟨a,hA⟩:∃a,(if c < 0 then -c else c)=a:=⟨_,rfl⟩
 rw [hA] at a0
 obtain ⟨j,hj,j01⟩:∃j:Int,(if decide (1000000000000000000≤a)=true then (1:Int) else 0)=j∧(j=1∨j=0):=⟨_,rfl,by split; exact .inl rfl; exact .inr rfl⟩
 have pw:mZ (.int 10) (.int 18)=some (.im (.int 1000000000000000000)):=rfl
 have m0:0≤c % 2147483629:=Int.emod_nonneg _ (by omega)
 have m1:c % 2147483629 < 2147483629:=Int.emod_lt_of_pos _ (by omega)
 refine ⟨a * j,c % 2147483629 + 7919 * k + 11,dH [some (.sc ns),some (.im (.int k)),none] rfl rfl ?_ rfl rfl,Int.mul_nonneg a0 (by omega),by omega,by omega⟩
 simp_arith [Ej,↓hc,Bm,hA,pw,xx,hj,mul_eq (i:=a) (j:=j) (.inr (by omega)),mod_eq (i:=c) (j:=2147483629) (by omega),mul_eq (i:=7919) (j:=k) (.inl (by omega))]
theorem Ra {C:Ce} {zs:List Str} {ps:List (Str×Str)} (hN:Names zs) (hP:bO zs ps) (h8:ps.length≤8):
  pU [.im (.list (ps.map bJ))] C=some (.ow (.dict (fP (rT ps ps))),C):=by
 obtain ⟨env',C',e,v2,v3,he,hC⟩:=cA (g:=gTp 2 (gsCons (gNm 2) (gsCons (gNm 3) gsNil))) (body:=ou) (its:=ps.map bJ) (env:=[some (.im (.list (ps.map bJ))),some (.ow (.dict [])),none,none]) (C:=C)
  (fun i env C1=>∃(v2 v3:Option Vl),env=[some (.im (.list (ps.map bJ))),some (.ow (.dict (fP (rT ps (ps.take i))))),v2,v3]∧C1=C)
  ⟨none,none,rfl,rfl⟩ (fun i d env C1 hd hI=>by
   obtain ⟨v2,v3,rfl,rfl⟩:=hI
   obtain ⟨x,hx,rfl⟩:=Vj hd
   obtain ⟨o,ho1,ho2,hp,hu⟩:=QT hN hP hx
   have ha:bH (.list [.str x.1]) (.list ((up ps x.2).map .str))=some (.ow (.list ((up ps x.1).map .str))):=by
    rw [hu]
    exact add_l (xs:=[.str x.1]) (by have:=MK ps x.2; rw [List.length_map]; show 1 + _≤_; omega)
   have g:((fP (rT ps (ps.take i))).length < 1000000)=True:=eq_true (by unfold fP rT; rw [List.length_map,List.length_map,List.length_take]; omega)
   let en:En:=[some (.im (.list (ps.map bJ))),some (.ow (.dict (fP (rT ps (ps.take i))))),some (.im (.str x.1)),some (.im (.str x.2))]
   have t1:Bs (aF 1) (aF 3) (fLst aNil) en C1=some (.im (o.getD (.list [])),en,C1):=get_eq (e1:=en) (e2:=en) (e3:=en) (kvs:=fP (rT ps (ps.take i))) (dk:=.str x.2) (r:=.ow (.list [])) rfl rfl rfl ho1 rfl rfl
   rw [ho2] at t1
   simp only [en] at t1
   refine ⟨en,.nx,[some (.im (.list (ps.map bJ))),some (.ow (.dict (fP (rT ps (ps.take (i + 1)))))),some (.im (.str x.1)),some (.im (.str x.2))],C1,rfl,?_,.inl rfl,_,_,rfl,rfl⟩
   simp_arith [ou,en,t1,ha,wj,uK,hp,g])
 rw [List.length_map,List.take_length] at he
 subst he
 subst hC
 refine dH [some (.im (.list (ps.map bJ))),none,none,none] rfl rfl ?_ rfl rfl
 simp_arith [zK,uI,fD,e]
theorem same_str {C:Ce} (n:Nat) (x:Str):eY (n + 1) [.im (.str x),.im (.str x)] C=some (.im (.bool true),C):=by
 refine Sv (k:=2) (n:=2) (en:=[some (.im (.str x)),some (.im (.str x))]) (e1:=[some (.im (.str x)),some (.im (.str x))]) rfl rfl ?_ rfl rfl
 simp_arith [tU,pF,Bp,DQ,xu,isNone,o9]
theorem JB {C:Ce} (n:Nat) (xs:List Str) (hl:xs.length≤1000):eY (n + 2) [.im (.list (xs.map .str)),.im (.list (xs.map .str))] C=some (.im (.bool true),C):=by
 have t:cQ (.many 2) fY (vI (eY (n + 1))) [] (pJ (xs.map .str) (xs.map .str)) C=some (List.replicate xs.length (.bool true),C):=by
  induction xs with
  | nil=>rfl
  | cons x xs ih=>
   rw [List.length_cons] at hl
   have ih:=ih (by omega)
   rw [List.map_cons,pJ]
   unfold cQ
   rw [List.length_cons,List.replicate_succ]
   simp_arith [RV,fY,jm,List.append_nil,same_str n x,ih]
 have b:=vp xs.length
 have h1:(xs.length≤1000000)=True:=eq_true (by omega)
 refine Sv (k:=2) (n:=2) (en:=[some (.im (.list (xs.map .str))),some (.im (.list (xs.map .str)))]) (e1:=[some (.im (.list (xs.map .str))),some (.im (.list (xs.map .str)))]) rfl rfl ?_ rfl rfl
 simp_arith [tU,pF,Bp,DQ,xu,isNone,o9,X7,t,b.1,b.2,List.length_replicate,h1]
noncomputable def vQ (os:List Str) (rank day:Int) (r:cY):Bool:=decide (rank≤r.2.2.1)&&(decide (r.2.2.2.2.1≤day)&&decide (day≤r.2.2.2.2.2))&&decide (r.2.2.2.1∈os)
noncomputable def gr (rk:List cY) (os:List Str) (rank day:Int):List Str:=eE strLt (dedup ((rk.filter (vQ os rank day)).map (·.2.1)))
theorem Vo {rk:List cY} {who:Str} {os:List Str} {rank day:Int} (h1:1≤rank):rank≤tM rk who os day ↔ ∃r∈rk,r.2.1=who∧vQ os rank day r=true:=by
 unfold tM
 constructor
 ·intro h
  by_cases hx:∃r∈rk,r.2.1=who∧vQ os rank day r=true
  ·exact hx
  ·have:((rk.filter (rP who os day)).map (·.2.2.1)).foldl max 0≤rank - 1:=pO.mpr ⟨by omega,fun x hm=>by
    obtain ⟨r,hr,rfl⟩:=List.mem_map.mp hm
    obtain ⟨m1,m2⟩:=List.mem_filter.mp hr
    unfold rP at m2
    simp only [Bool.and_eq_true,decide_eq_true_eq] at m2
    by_cases hk:rank≤r.2.2.1
    ·refine absurd ⟨r,m1,m2.1,?_⟩ hx
     unfold vQ
     simp only [Bool.and_eq_true,decide_eq_true_eq]
     exact ⟨⟨hk,m2.2.2⟩,m2.2.1⟩
    ·omega⟩
   omega
 ·rintro ⟨r,m1,hw,m2⟩
  unfold vQ at m2
  simp only [Bool.and_eq_true,decide_eq_true_eq] at m2
  have:=(pO (l:=(rk.filter (rP who os day)).map (·.2.2.1)) (a:=0)).mp (Int.le_refl _)
  have:=this.2 r.2.2.1 (List.mem_map.mpr ⟨r,List.mem_filter.mpr ⟨m1,by
   unfold rP
   simp only [Bool.and_eq_true,decide_eq_true_eq]
   exact ⟨hw,m2.2,m2.1.2⟩⟩,rfl⟩)
  omega
theorem Et (rk:List cY) (os:List Str) {rank day:Int} (h1:1≤rank):(eE strLt (dedup (rk.map (·.2.1)))).filter (fun who=>decide (rank≤tM rk who os day))=gr rk os rank day:=by
 refine zm Ql (fun _ _=>trivial) ?_ ((uO Ql fun _ _=>trivial).filter _)
 refine (List.perm_ext_iff_of_nodup (List.Pairwise.filter _ ((dh _).nodup_iff.mpr (rK _))) (rK _)).mpr fun who=>?_
 rw [List.mem_filter,(dh _).mem_iff,qy,qy,decide_eq_true_eq,Vo h1]
 constructor
 ·rintro ⟨_,r,m,e,h⟩
  exact List.mem_map.mpr ⟨r,List.mem_filter.mpr ⟨m,h⟩,e⟩
 ·intro h
  obtain ⟨r,m,e⟩:=List.mem_map.mp h
  obtain ⟨m1,m2⟩:=List.mem_filter.mp m
  exact ⟨List.mem_map.mpr ⟨r,m1,e⟩,r,m1,e,m2⟩
theorem tV (rk:List cY) (os:List Str) (rank day:Int):(gr rk os rank day).length≤rk.length:=by
 unfold gr
 rw [(dh _).length_eq]
 refine Nat.le_trans (dY _) ?_
 rw [List.length_map]
 exact List.length_filter_le _ _
theorem Nq {rk:List cY} {os:List Str} {rank day:Int} {p:Str} (h:p∈gr rk os (rank + 1) day):p∈gr rk os rank day:=by
 unfold gr at h ⊢
 rw [(dh _).mem_iff,qy] at h ⊢
 obtain ⟨r,m,e⟩:=List.mem_map.mp h
 obtain ⟨m1,m2⟩:=List.mem_filter.mp m
 refine List.mem_map.mpr ⟨r,List.mem_filter.mpr ⟨m1,?_⟩,e⟩
 unfold vQ at m2 ⊢
 simp only [Bool.and_eq_true,decide_eq_true_eq] at m2 ⊢
 exact ⟨⟨by omega,m2.1.2⟩,m2.2⟩
section
variable {C:Ce} {zs:List Str} {ps:List (Str×Str)} {ht:dj} (hN:Names zs) (hP:bO zs ps) (hG:eG zs ps ht)
include hN hP hG
theorem Eu (rank:Int) (z:Str) (day:Int) (h1:1≤rank):eX [.im (bU ht),.im (.int rank),.im (.str z),.im (.int day)] C=some (.ow (.list ((gr ht.aU (up ps z) rank day).map .str)),C):=by
 have Xm:=hG.r20
 have t1:cQ .one fY gq [] (ht.aU.map bG) C=some ((ht.aU.map (·.2.1)).map .str,C):=by
  have:=cV (T:=.one) (ft:=fY) (fe:=gq) (fs:=[]) (C:=C) bG (fun _=>true) (fun r=>.str r.2.1) (l:=ht.aU) fun r _=>⟨[bG r],rfl,rfl,fun _=>⟨.im (.str r.2.1),_,by simp_arith [jm,List.append_nil]; rfl,rfl⟩⟩
  rw [List.filter_eq_self.mpr fun _ _=>rfl] at this
  rw [List.map_map]
  exact this
 have t2:fZ ((ht.aU.map (·.2.1)).map .str)=some ((eE strLt (dedup (ht.aU.map (·.2.1)))).map .str):=by
  unfold fZ
  rw [if_pos (by rw [List.length_map,List.length_map]; omega),nW]
 have t3:cQ .one j5 j6 [some (.im (bU ht)),some (.im (.str z)),some (.im (.int day)),some (.im (.int rank))] ((eE strLt (dedup (ht.aU.map (·.2.1)))).map .str) C=some ((gr ht.aU (up ps z) rank day).map .str,C):=by
  rw [←Et ht.aU (up ps z) h1]
  refine cV PyData.str _ PyData.str fun who _=>⟨[.str who],rfl,?_,fun _=>⟨.im (.str who),_,rfl,rfl⟩⟩
  simp_arith [jm,List.cons_append,List.nil_append,Es hN hP hG who z day]
 have hl:=tV ht.aU (up ps z) rank day
 have h2:((gr ht.aU (up ps z) rank day).length≤1000000)=True:=eq_true (by omega)
 refine dH [some (.im (bU ht)),some (.im (.int rank)),some (.im (.str z)),some (.im (.int day)),none] rfl rfl ?_ rfl rfl
 simp_arith [jQ,Xf,t1,t2,t3,h2]
end
section
variable {C:Ce} {zs:List Str} {ps:List (Str×Str)} {ht:dj} (hN:Names zs) (hP:bO zs ps) (hG:eG zs ps ht)
include hN hP hG
theorem Nr {v1 v4 v5 v7 v9 v10:Option Vl} (rank day:Int) (z:Str) (h1:1≤rank):
  ∃w10,iW [some (.im (bU ht)),v1,some (.im (.str z)),some (.im (.int day)),v4,v5,some (.im (.int rank)),v7,some (.ow (.list ((gr ht.aU (up ps z) rank day).map .str))),v9,v10] C
   =some (.nx,[some (.im (bU ht)),v1,some (.im (.str z)),some (.im (.int day)),v4,v5,some (.im (.int rank)),v7,some (.ow (.list ((gr ht.aU (up ps z) rank day).map .str))),v9,w10],C):=by
 have hl:=tV ht.aU (up ps z) rank day
 have Xm:=hG.r20
 have h2:=Eu (C:=C) hN hP hG rank z day h1
 have h3:=JB (C:=C) 1 (gr ht.aU (up ps z) rank day) (by omega)
 have h4:((gr ht.aU (up ps z) rank day).length < 1000000)=True:=eq_true (by omega)
 simp_arith [iW,h2,h3,j8,lF,h4,QG]
 exact ⟨_,rfl⟩
theorem Rb {v4 v5 v7 v8 v9 v10:Option Vl} {tw:Int} (rank day:Int) (z:Str) (h1:1≤rank) (h4:v4=some (.im (.int tw))) (h5:v5=some (.im .none)∨v5=some (.im (.list ((gr ht.aU (up ps z) (rank + 1) day).map .str)))):
  ∃w7 w8 w9 w10,iY [some (.im (bU ht)),some (.im (.dict (fP (rT ps ps)))),some (.im (.str z)),some (.im (.int day)),v4,v5,some (.im (.int rank)),v7,v8,v9,v10] C
   =some (.nx,[some (.im (bU ht)),some (.im (.dict (fP (rT ps ps)))),some (.im (.str z)),some (.im (.int day)),v4,some (.im (.list ((gr ht.aU (up ps z) rank day).map .str))),some (.im (.int rank)),w7,w8,w9,w10],C):=by
 have hl:=tV ht.aU (up ps z) rank day
 have Xm:=hG.r20
 subst h4
 let p1:cY→Bool:=fun r=>decide (rank≤r.2.2.1)&&(decide (r.2.2.2.2.1≤day)&&decide (day≤r.2.2.2.2.2))
 obtain ⟨l1,Zy⟩:∃l,l=ht.aU.filter p1:=⟨_,rfl⟩
 have l1l:l1.length≤20:=by rw [Zy]; exact Nat.le_trans (List.length_filter_le _ _) Xm
 have t1:cQ .one sE sG [some (.im (.int rank)),some (.im (.int day))] (ht.aU.map bG) C=some (l1.map bG,C):=by
  rw [Zy]
  refine cV bG p1 bG fun r _=>⟨[bG r],rfl,?_,fun _=>⟨.im (bG r),_,rfl,rfl⟩⟩
  simp_arith [jm,List.cons_append,List.nil_append]
  show _=some (decide (rank≤r.2.2.1)&&(decide (r.2.2.2.2.1≤day)&&decide (day≤r.2.2.2.2.2)),C)
  cases decide (rank≤r.2.2.1) <;> cases decide (r.2.2.2.2.1≤day) <;> rfl
 obtain ⟨o,ho1,ho2⟩:=QM hN hP z
 obtain ⟨l2,Zz⟩:∃l,l=(ht.aU.filter (vQ (up ps z) rank day)).map (·.2.1):=⟨_,rfl⟩
 have l2l:l2.length≤20:=by rw [Zz,List.length_map]; exact Nat.le_trans (List.length_filter_le _ _) Xm
 have t2:cQ .one mj sy [some (.im (.dict (fP (rT ps ps)))),some (.im (.str z))] (l1.map bG) C=some (l2.map .str,C):=by
  have e:l2.map PyData.str=(l1.filter fun r=>decide (r.2.2.2.1∈up ps z)).map fun r=>.str r.2.1:=by
   rw [Zz,Zy,List.filter_filter,List.map_map]
   congr 1
   congr 1
   funext r
   rw [Bool.and_comm]
   rfl
  rw [e]
  refine cV bG (fun r=>decide (r.2.2.2.1∈up ps z)) (fun r=>.str r.2.1) fun r _=>⟨[bG r],rfl,?_,fun _=>⟨.im (.str r.2.1),_,by simp_arith [jm,List.cons_append,List.nil_append]; rfl,rfl⟩⟩
  let fs:En:=[some (.im (bG r)),some (.im (.dict (fP (rT ps ps)))),some (.im (.str z))]
  have g:Bs (aF 1) (aF 2) (fLst aNil) fs C=some (.im (o.getD (.list [])),fs,C):=get_eq (e1:=fs) (e2:=fs) (e3:=fs) (kvs:=fP (rT ps ps)) (dk:=.str z) (r:=.ow (.list [])) rfl rfl rfl ho1 rfl rfl
  rw [ho2] at g
  show mj fs C=_
  simp_arith [fs,g]
 have t3:fZ (l2.map .str)=some ((gr ht.aU (up ps z) rank day).map .str):=by
  unfold fZ
  rw [if_pos (by rw [List.length_map]; omega),nW,Zz]
  rfl
 obtain ⟨m,hm,m1⟩:∃m:Int,(1 + if rank==tw then (1:Int) else 0)=m∧0≤m∧m≤2:=⟨_,rfl,by split <;> omega,by split <;> omega⟩
 let en (v9 v10:Option Vl):En:=[some (.im (bU ht)),some (.im (.dict (fP (rT ps ps)))),some (.im (.str z)),some (.im (.int day)),some (.im (.int tw)),v5,some (.im (.int rank)),some (.ow (.list (l1.map bG))),some (.ow (.list ((gr ht.aU (up ps z) rank day).map .str))),v9,v10]
 obtain ⟨env',C',e,w9,w10,he,hC⟩:=cA (g:=gNm 9) (body:=iW) (its:=lJ 0 m.toNat) (env:=en v9 v10) (C:=C)
  (fun i env C1=>∃w9 w10,env=en w9 w10∧C1=C) ⟨v9,v10,rfl,rfl⟩ (fun i d env C1 hd hI=>by
   obtain ⟨w9,w10,rfl,rfl⟩:=hI
   obtain ⟨X8,e⟩:=Nr (C:=C1) (v1:=some (.im (.dict (fP (rT ps ps))))) (v4:=some (.im (.int tw))) (v5:=v5) (v7:=some (.ow (.list (l1.map bG)))) (v9:=some (.im d)) (v10:=w10) hN hP hG rank day z h1
   exact ⟨_,.nx,_,C1,rfl,e,.inl rfl,some (.im d),X8,rfl,rfl⟩)
 subst he
 subst hC
 simp only [en] at e
 have q1:(l1.length≤1000000)=True:=eq_true (by omega)
 have q2:(l2.length≤1000000)=True:=eq_true (by omega)
 have nl:∀l:List cY,iC (l.map bG)=true:=by
  intro l
  induction l with
  | nil=>rfl
  | cons r l ih=>show (true&&iC (l.map bG))=true; rw [ih]; rfl
 have b:=vp (gr ht.aU (up ps z) (rank + 1) day).length
 have hl2:=tV ht.aU (up ps z) (rank + 1) day
 have q3:((gr ht.aU (up ps z) (rank + 1) day).length≤1000000)=True:=eq_true (by omega)
 have t4:cQ .one fY lZ [some (.im (.list ((gr ht.aU (up ps z) rank day).map .str)))] ((gr ht.aU (up ps z) (rank + 1) day).map .str) C'=some (List.replicate (gr ht.aU (up ps z) (rank + 1) day).length (.bool true),C'):=by
  have:=cV (T:=.one) (ft:=fY) (fe:=lZ) (fs:=[some (.im (.list ((gr ht.aU (up ps z) rank day).map .str)))]) (C:=C') PyData.str (fun _=>true) (fun _=>.bool true) (l:=gr ht.aU (up ps z) (rank + 1) day) fun p hp=>⟨[.str p],rfl,rfl,fun _=>⟨.im (.bool true),_,by
   simp_arith [jm,List.cons_append,List.nil_append,decide_eq_true (Nq hp)]; rfl,rfl⟩⟩
  rw [List.filter_eq_self.mpr fun _ _=>rfl,List.map_const'] at this
  exact this
 rcases h5 with rfl | rfl <;>
  simp_arith [iY,t1,t2,t3,G3,q1,q2,q3,nl,fD,zR,xx,hm,BR (m:=m) (by omega) (by omega),e,yW,isNone,t4,b.1,b.2,List.length_replicate] <;>
  exact ⟨_,_,_,_,rfl⟩
end
section
variable {C:Ce} {zs:List Str} {ps:List (Str×Str)} {ht:dj} (hN:Names zs) (hP:bO zs ps) (hG:eG zs ps ht)
include hN hP hG
theorem Nt (z:Str) (day tw:Int):mq [.im (bU ht),.im (.dict (fP (rT ps ps))),.im (.str z),.im (.int day),.im (.int tw)] C=some (.im (.bool true),C):=by
 let en (v5 v6 v7 v8 v9 v10:Option Vl):En:=[some (.im (bU ht)),some (.im (.dict (fP (rT ps ps)))),some (.im (.str z)),some (.im (.int day)),some (.im (.int tw)),v5,v6,v7,v8,v9,v10]
 obtain ⟨env',C',e,w5,w6,w7,w8,w9,w10,he,_,hC⟩:=cA (g:=gNm 6) (body:=iY) (its:=rQ 9 9) (env:=en (some (.im .none)) none none none none none) (C:=C)
  (fun i env C1=>∃w5 w6 w7 w8 w9 w10,env=en w5 w6 w7 w8 w9 w10∧(w5=some (.im .none)∨w5=some (.im (.list ((gr ht.aU (up ps z) (9 - i + 1) day).map .str))))∧C1=C)
  ⟨_,_,_,_,_,_,rfl,.inl rfl,rfl⟩ (fun i d env C1 hd hI=>by
   obtain ⟨w5,w6,w7,w8,w9,w10,rfl,h5,rfl⟩:=hI
   obtain ⟨rfl,hi⟩:=M5 hd
   obtain ⟨u7,u8,u9,X8,e⟩:=Rb (C:=C1) (v4:=some (.im (.int tw))) (v5:=w5) (v7:=w7) (v8:=w8) (v9:=w9) (v10:=w10) (tw:=tw) hN hP hG (9 - (i:Int)) day z (by omega) rfl h5
   refine ⟨_,.nx,_,C1,rfl,e,.inl rfl,_,_,_,_,_,_,rfl,.inr ?_,rfl⟩
   rw [show (9:Int) - ((i + 1:Nat):Int) + 1=9 - (i:Int) by omega])
 subst he
 subst hC
 simp only [en] at e
 have r:QF (az (fCst (.int 9))) (az (fCst (.int 0))) (az (fNeg (az (fCst (.int 1))))) (en (some (.im .none)) none none none none none) C'=some (rQ 9 9,en (some (.im .none)) none none none none none,C'):=rfl
 simp only [en] at r
 refine dH [some (.im (bU ht)),some (.im (.dict (fP (rT ps ps)))),some (.im (.str z)),some (.im (.int day)),some (.im (.int tw)),none,none,none,none,none,none] rfl rfl ?_ rfl rfl
 simp_arith [vJ,fD,r,e]
end
section
variable {ns:List Int} {k:Int} {b:Nat} {zs:List Str} {ps:List (Str×Str)} {ht:dj} {kept:Str} {v3 v8 v9:Option Vl} (hN:Names zs) (hP:bO zs ps) (hG:eG zs ps ht)
noncomputable abbrev JC (ns:List Int) (k:Int) (b:Nat) (v3:Option Vl) (ps:List (Str×Str)) (ht:dj) (kept:Str) (v8 v9 v10 v11:Option Vl):En:=
 [some (.sc ns),some (.im (.int k)),some (.ce b),v3,some (.im (.list (ps.map bJ))),some (.im (bU ht)),some (.im (.str kept)),some (.ow (.dict (fP (rT ps ps)))),v8,v9,v10,v11]
include hN hP hG
theorem Rc {C:Ce} {L j:Nat} {day:Int} {z:Str} (h:Bf L C b (j + 1)):∃C',pW (JC ns k b v3 ps ht kept v8 v9 (some (.im (.int day))) (some (.im (.str z)))) C=some (.nx,JC ns k b v3 ps ht kept v8 v9 (some (.im (.int day))) (some (.im (.str z))),C')∧Bf L C' b j:=by
 obtain ⟨t,C1,e1,a1,b1,oA⟩:=bz (m:=9) h (by decide) (by decide)
 have h2:=Nt (C:=C1) hN hP hG z day (1 + t)
 refine ⟨C1,?_,oA⟩
 simp_arith [pW,JC,e1,h2]
theorem Rf {C:Ce} {L j:Nat} {day:Int} {v11:Option Vl} (h:Bf L C b (j + 4)) (hp:1≤ps.length):∃C' w11,mC (JC ns k b v3 ps ht kept v8 v9 (some (.im (.int day))) v11) C=some (.nx,JC ns k b v3 ps ht kept v8 v9 (some (.im (.int day))) w11,C')∧Bf L C' b j:=by
 obtain ⟨t,C1,e1,a1,b1,oA⟩:=bz (m:=ps.length) h (by omega) (by have:=hG.p8; omega)
 obtain ⟨x,hx,_⟩:=uW (xs:=ps) a1 b1
 have hx':gC (ps.map bJ) t=some (bJ x):=by
  unfold gC at hx ⊢
  rw [List.length_map]
  cases hj:yz ps.length t with
  | none=>rw [hj] at hx; cases hx
  | some j=>
   rw [hj] at hx
   have hx:ps[j]?=some x:=hx
   show (ps.map bJ)[j]?=_
   rw [List.getElem?_map,hx]
   rfl
 obtain ⟨y,hy⟩:∃y,gC (ps.map bJ) (-1)=some (bJ y):=by
  have hlt:ps.length - 1 < ps.length:=by omega
  refine ⟨ps[ps.length - 1],?_⟩
  have hj:yz (ps.map bJ).length (-1)=some (ps.length - 1):=by
   rw [List.length_map]
   unfold yz
   rw [if_neg (by omega),if_pos (by omega)]
   congr 1
   omega
  unfold gC
  rw [hj]
  show (ps.map bJ)[ps.length - 1]?=_
  rw [List.getElem?_map,List.getElem?_eq_getElem hlt]
  rfl
 have px:∀p:Str×Str,bf (bJ p) (.int 0)=some (.im (.str p.1)):=fun p=>lQ (i:=0) rfl
 obtain ⟨env',C',e,w11,he,hB⟩:=cA (g:=gNm 11) (body:=pW) (its:=[.str x.1,.str y.1,.str (Str.ofString "qqqqqqqq")]) (env:=JC ns k b v3 ps ht kept v8 v9 (some (.im (.int day))) v11) (C:=C1)
  (fun i env C2=>∃w11,env=JC ns k b v3 ps ht kept v8 v9 (some (.im (.int day))) w11∧Bf L C2 b (j + (3 - i))) ⟨v11,rfl,oA⟩ (fun i d env C2 hd hI=>by
   obtain ⟨w11,rfl,hB⟩:=hI
   have hi:i < 3:=(List.getElem?_eq_some_iff.mp hd).1
   rw [show j + (3 - i)=j + (3 - (i + 1)) + 1 by omega] at hB
   obtain ⟨z,rfl⟩:∃z,d=.str z:=by
    have:=List.mem_of_getElem? hd
    simp only [List.mem_cons,List.not_mem_nil,or_false] at this
    rcases this with rfl | rfl | rfl <;> exact ⟨_,rfl⟩
   obtain ⟨C3,e,hB3⟩:=Rc (ns:=ns) (k:=k) (kept:=kept) (v3:=v3) (v8:=v8) (v9:=v9) (day:=day) (z:=z) hN hP hG hB
   exact ⟨_,.nx,_,C3,rfl,e,.inl rfl,_,rfl,hB3⟩)
 subst he
 refine ⟨C',w11,?_,hB⟩
 simp only [JC] at e ⊢
 simp_arith [mC,e1,hx',hy,px,fD,e]
theorem Rg {v10 v11:Option Vl} (hp:1≤ps.length) {C:Ce} {L j:Nat} (ds:List Int) (hd:ds.length≤10) (h:Bf L C b (j + 40)):∃C' w10 w11,m7 (gNm 10) mC (ds.map .int) (JC ns k b v3 ps ht kept v8 v9 v10 v11) C=some (.nx,JC ns k b v3 ps ht kept v8 v9 w10 w11,C'):=by
 obtain ⟨env',C',e,w10,w11,he,hB⟩:=cA (g:=gNm 10) (body:=mC) (its:=ds.map .int) (env:=JC ns k b v3 ps ht kept v8 v9 v10 v11) (C:=C)
  (fun i env C2=>∃w10 w11,env=JC ns k b v3 ps ht kept v8 v9 w10 w11∧Bf L C2 b (j + 4 * (10 - i))) ⟨v10,v11,rfl,h⟩ (fun i d env C2 hd hI=>by
   obtain ⟨w10,w11,rfl,hB⟩:=hI
   have hi:=(List.getElem?_eq_some_iff.mp hd).1
   rw [List.length_map] at hi
   rw [show j + 4 * (10 - i)=j + 4 * (10 - (i + 1)) + 4 by omega] at hB
   obtain ⟨day,_,rfl⟩:=List.mem_map.mp (List.mem_of_getElem? hd)
   obtain ⟨C3,u11,e,hB3⟩:=Rf (ns:=ns) (k:=k) (kept:=kept) (v3:=v3) (v8:=v8) (v9:=v9) (day:=day) (v11:=w11) hN hP hG hB hp
   exact ⟨_,.nx,_,C3,rfl,e,.inl rfl,_,_,rfl,hB3⟩)
 subst he
 exact ⟨C',w10,w11,e⟩
end
theorem Nu {C:Ce} {ns:List Int} {k:Int} {v2 v3 v4 v5 v6 v7 v8 v9 v10 v11:Option Vl} (k0:0≤k) (k9:k≤9):
  ∃(C':Ce) (w2 w3 w4 w5 w6 w7 w8 w9 w10 w11:Option Vl),pX [some (.sc ns),some (.im (.int k)),v2,v3,v4,v5,v6,v7,v8,v9,v10,v11] C=some (.nx,[some (.sc ns),some (.im (.int k)),w2,w3,w4,w5,w6,w7,w8,w9,w10,w11],C'):=by
 obtain ⟨x,y,hb,x0,y0,y3⟩:=Vn (C:=C) (ns:=ns) k0 k9
 have hB0:=Vk C x0 y0 y3
 obtain ⟨zs,C1,e2,hN,h9,oA⟩:=Nj (m:=9) (j:=799760) hB0 (by decide) (by decide)
 have h9':zs.length=9:=by rw [h9]; rfl
 obtain ⟨ps,ht,C2,e3,hP,p1,hG,hB2⟩:=Nm (j:=798224) oA h9' hN.1
 have hr:=QS hN.2 hP hG
 have ho:=Ra (C:=C2) hN hP hG.p8
 obtain ⟨d0,C3,e4,a4,b4,hB3⟩:=vO (j:=798220) hB2
 have Xm:=hG.r20
 obtain ⟨t,C4,e5,a5,b5,Oa⟩:=bz (m:=(ht.aU.length:Int) + 1) (k:=798219) hB3 (by omega) (by omega)
 let last:cY:=(0,Str.ofString "",0,Str.ofString "",3,7)
 obtain ⟨r,hr0,hr1⟩:=uW (xs:=ht.aU++[last]) a5 (by rw [List.length_append]; show t < (ht.aU.length:Int) + 1; omega)
 have hr2:gC (ht.aU.map bG++[bG last]) t=some (bG r):=by
  have e:ht.aU.map bG++[bG last]=(ht.aU++[last]).map bG:=by rw [List.map_append]; rfl
  rw [e]
  unfold gC at hr0 ⊢
  rw [List.length_map]
  cases hj:yz (ht.aU++[last]).length t with
  | none=>rw [hj] at hr0; cases hr0
  | some j=>
   rw [hj] at hr0
   have hr0:(ht.aU++[last])[j]?=some r:=hr0
   show ((ht.aU++[last]).map bG)[j]?=_
   rw [List.getElem?_map,hr0]
   rfl
 have ha:bH (.tuple (ht.aU.map bG)) (.tuple [bG last])=some (.im (.tuple (ht.aU.map bG++[bG last]))):=Su (by rw [List.length_map]; show ht.aU.length + 1≤_; omega)
 simp only [bG,last] at ha hr2
 obtain ⟨d1,h1⟩:∃d,(if r.2.2.2.2.1 - 1 > 0 then r.2.2.2.2.1 - 1 else 0)=d:=⟨_,rfl⟩
 obtain ⟨d2,h2⟩:∃d,(if r.2.2.2.2.2 + 1 < 99999 then r.2.2.2.2.2 + 1 else 99999)=d:=⟨_,rfl⟩
 obtain ⟨ds,hds,hdl⟩:∃ds:List Int,zp [.int d0,.int r.2.2.2.2.1,.int r.2.2.2.2.2,.int d1,.int d2]=some (ds.map .int)∧ds.length≤10:=by
  refine ⟨eE ltI (dedup [d0,r.2.2.2.2.1,r.2.2.2.2.2,d1,d2]),rfl,?_⟩
  rw [(dh _).length_eq]
  exact Nat.le_trans (dY _) (by show 5≤10; omega)
 have hal:bH (.list [.int d0]) (.list [.int r.2.2.2.2.1,.int r.2.2.2.2.2,.int d1,.int d2])=some (.ow (.list [.int d0,.int r.2.2.2.2.1,.int r.2.2.2.2.2,.int d1,.int d2])):=add_l (xs:=[.int d0]) (ys:=[.int r.2.2.2.2.1,.int r.2.2.2.2.2,.int d1,.int d2]) (by show 1 + 4≤1000000; omega)
 obtain ⟨C5,w10,w11,e6⟩:=Rg (ns:=ns) (k:=k) (kept:=(bU ht).shown) (v3:=some (.im (.list (zs.map .str)))) (v8:=some (.ow (.list [.int d0]))) (v9:=some (.im (bG r))) (v10:=v10) (v11:=v11) (j:=798179) hN hP hG p1 ds hdl Oa
 simp only [JC] at e6
 have kx4:=k_ix4 r
 have kx5:=k_ix5 r
 simp only [bG] at kx4 kx5 e6
 simp_arith [pX,Lx,hb,intsOf,e2,e3,hr,ho,e4,e5,ha,hr2,kx4,kx5,qK,qL,h1,h2,hal,GZ,hds,fD,e6]
 exact ⟨_,_,_,_,_,_,_,_,_,_,_,rfl⟩
theorem Nv (ns:List Int) (h:ns.length≤63):∃C',yh [.sc ns] []=some (.im (.bool true),C'):=by
 obtain ⟨m,hm,m1,m2⟩:∃m:Int,(1 + if (ns.length:Int) < 5 then (ns.length:Int) else 5)=m∧0≤m∧m≤6:=⟨_,rfl,by split <;> omega,by split <;> omega⟩
 obtain ⟨env',C',e,v1,v2,v3,v4,v5,v6,v7,v8,v9,v10,v11,he⟩:=cA (g:=gNm 1) (body:=pX) (its:=lJ 0 m.toNat) (env:=[some (.sc ns),none,none,none,none,none,none,none,none,none,none,none]) (C:=[])
  (fun i env C1=>∃v1 v2 v3 v4 v5 v6 v7 v8 v9 v10 v11:Option Vl,env=[some (.sc ns),v1,v2,v3,v4,v5,v6,v7,v8,v9,v10,v11])
  ⟨none,none,none,none,none,none,none,none,none,none,none,rfl⟩ (fun i d env C1 hd hI=>by
   obtain ⟨v1,v2,v3,v4,v5,v6,v7,v8,v9,v10,v11,rfl⟩:=hI
   obtain ⟨rfl,hi⟩:=jM hd
   obtain ⟨C2,w2,w3,w4,w5,w6,w7,w8,w9,w10,w11,e⟩:=Nu (C:=C1) (ns:=ns) (k:=0 + (i:Int)) (v2:=v2) (v3:=v3) (v4:=v4) (v5:=v5) (v6:=v6) (v7:=v7) (v8:=v8) (v9:=v9) (v10:=v10) (v11:=v11) (by omega) (by omega)
   exact ⟨_,.nx,_,C2,rfl,e,.inl rfl,_,w2,w3,w4,w5,w6,w7,w8,w9,w10,w11,rfl⟩)
 subst he
 refine ⟨C'.take 0,?_⟩
 unfold yh fN
 rw [if_pos (show [Vl.sc ns].length=1 from rfl),show ([Vl.sc ns].map some++List.replicate (12 - [Vl.sc ns].length) none)=[some (.sc ns),none,none,none,none,none,none,none,none,none,none,none] from rfl]
 simp_arith [M9,fD,zR,rN,qL,hm,BR (m:=m) (by omega) (by omega),e,Bl]
theorem all_mk {l:PySem.W.OpenLaw} {w:World} {K:PySem.W.Frag} {h:Heap} {mg:Str→Option Value} {fa:Addr} (X:K.In h) (G:h.Ns mainGlobals mg) (hfa:mg "law"=some (.ref fa))
  {f0 f1 f2 f3 f4 f5 f6 f7 f8 f9 Ye f11 ZC Yg Yh ZD:Addr} {od0 an0 od1 an1 od2 an2 od3 an3 od4 an4 od5 an5 od6 an6 od7 an7 od8 an8 od9 an9 ZF ZG ZJ ZK ZL ZM ZP ZQ ZR ZS ZV Xn:Option Addr} {sl0 sl1 sl2 sl3 sl4 sl5 sl6 sl7 sl8 sl9 ZW ZX ZZ Z0 Z1 Z2:Array (Option Value)} {oc0 kV0 dc0 pm0 cd0 ct0 oc1 kV1 dc1 pm1 cd1 ct1 oc2 kV2 dc2 pm2 cd2 ct2 oc3 kV3 dc3 pm3 cd3 ct3 oc4 kV4 dc4 pm4 cd4 ct4 oc5 kV5 dc5 pm5 cd5 ct5 oc6 kV6 dc6 pm6 cd6 ct6 oc7 kV7 dc7 pm7 cd7 ct7 oc8 kV8 dc8 pm8 cd8 ct8 oc9 kV9 dc9 pm9 cd9 ct9 Z3 Z4 Z5 Z6 Xo Z7 Z8 Z9 aaa aab Xp aac aad aae aaf aag Xq aah aai aaj aak aal Xr aam aan aao aap aaq Xu aar aas Xv Xw Xx Vp Xy:Value}
  (a0:PySem.W.nsIn K mainGlobals "parts_over"=some (some (.ref f0))) (l0:K.lookup f0=some ⟨oc0,od0,.func (PySem.W.fnOf "parts_over" "parts_over" (bZ cW) (bR cW) (aC cW) .none kV0 dc0 pm0 an0 cd0 ct0),sl0⟩) (c0:PySem.W.codeIn K cd0 "parts_over"=true) (k0:PySem.W.keepIn K (.ref f0)=true)
  (a1:PySem.W.nsIn K mainGlobals "rank_of"=some (some (.ref f1))) (l1:K.lookup f1=some ⟨oc1,od1,.func (PySem.W.fnOf "rank_of" "rank_of" (bZ fJ) (bR fJ) (aC fJ) .none kV1 dc1 pm1 an1 cd1 ct1),sl1⟩) (c1:PySem.W.codeIn K cd1 "rank_of"=true) (k1:PySem.W.keepIn K (.ref f1)=true)
  (a2:PySem.W.nsIn K mainGlobals "holders_of"=some (some (.ref f2))) (l2:K.lookup f2=some ⟨oc2,od2,.func (PySem.W.fnOf "holders_of" "holders_of" (bZ cH) (bR cH) (aC cH) .none kV2 dc2 pm2 an2 cd2 ct2),sl2⟩) (c2:PySem.W.codeIn K cd2 "holders_of"=true) (k2:PySem.W.keepIn K (.ref f2)=true)
  (a3:PySem.W.nsIn K mainGlobals "_law_box"=some (some (.ref f3))) (l3:K.lookup f3=some ⟨oc3,od3,.func (PySem.W.fnOf "_law_box" "_law_box" (bZ qT) (bR qT) (aC qT) .none kV3 dc3 pm3 an3 cd3 ct3),sl3⟩) (c3:PySem.W.codeIn K cd3 "_law_box"=true) (k3:PySem.W.keepIn K (.ref f3)=true)
  (a4:PySem.W.nsIn K mainGlobals "_law_take"=some (some (.ref f4))) (l4:K.lookup f4=some ⟨oc4,od4,.func (PySem.W.fnOf "_law_take" "_law_take" (bZ mQ) (bR mQ) (aC mQ) .none kV4 dc4 pm4 an4 cd4 ct4),sl4⟩) (c4:PySem.W.codeIn K cd4 "_law_take"=true) (k4:PySem.W.keepIn K (.ref f4)=true)
  (a5:PySem.W.nsIn K mainGlobals "_law_names"=some (some (.ref f5))) (l5:K.lookup f5=some ⟨oc5,od5,.func (PySem.W.fnOf "_law_names" "_law_names" (bZ eO) (bR eO) (aC eO) .none kV5 dc5 pm5 an5 cd5 ct5),sl5⟩) (c5:PySem.W.codeIn K cd5 "_law_names"=true) (k5:PySem.W.keepIn K (.ref f5)=true)
  (a6:PySem.W.nsIn K mainGlobals "_law_day"=some (some (.ref f6))) (l6:K.lookup f6=some ⟨oc6,od6,.func (PySem.W.fnOf "_law_day" "_law_day" (bZ qU) (bR qU) (aC qU) .none kV6 dc6 pm6 an6 cd6 ct6),sl6⟩) (c6:PySem.W.codeIn K cd6 "_law_day"=true) (k6:PySem.W.keepIn K (.ref f6)=true)
  (a7:PySem.W.nsIn K mainGlobals "_law_sum"=some (some (.ref f7))) (l7:K.lookup f7=some ⟨oc7,od7,.func (PySem.W.fnOf "_law_sum" "_law_sum" (bZ qW) (bR qW) (aC qW) .none kV7 dc7 pm7 an7 cd7 ct7),sl7⟩) (c7:PySem.W.codeIn K cd7 "_law_sum"=true) (k7:PySem.W.keepIn K (.ref f7)=true)
  (a8:PySem.W.nsIn K mainGlobals "_law_numbers"=some (some (.ref f8))) (l8:K.lookup f8=some ⟨oc8,od8,.func (PySem.W.fnOf "_law_numbers" "_law_numbers" (bZ fL) (bR fL) (aC fL) .none kV8 dc8 pm8 an8 cd8 ct8),sl8⟩) (c8:PySem.W.codeIn K cd8 "_law_numbers"=true) (k8:PySem.W.keepIn K (.ref f8)=true)
  (a9:PySem.W.nsIn K mainGlobals "_law_many"=some (some (.ref f9))) (l9:K.lookup f9=some ⟨oc9,od9,.func (PySem.W.fnOf "_law_many" "_law_many" (bZ mR) (bR mR) (aC mR) .none kV9 dc9 pm9 an9 cd9 ct9),sl9⟩) (c9:PySem.W.codeIn K cd9 "_law_many"=true) (k9:PySem.W.keepIn K (.ref f9)=true)
  (a10:PySem.W.nsIn K mainGlobals "_law_parts"=some (some (.ref Ye))) (l10:K.lookup Ye=some ⟨Z3,ZF,.func (PySem.W.fnOf "_law_parts" "_law_parts" (bZ g8) (bR g8) (aC g8) .none Z4 Z5 Z6 ZG Xo Z7),ZW⟩) (c10:PySem.W.codeIn K Xo "_law_parts"=true) (k10:PySem.W.keepIn K (.ref Ye)=true)
  (a11:PySem.W.nsIn K mainGlobals "_law_house"=some (some (.ref f11))) (l11:K.lookup f11=some ⟨Z8,ZJ,.func (PySem.W.fnOf "_law_house" "_law_house" (bZ gf) (bR gf) (aC gf) .none Z9 aaa aab ZK Xp aac),ZX⟩) (c11:PySem.W.codeIn K Xp "_law_house"=true) (k11:PySem.W.keepIn K (.ref f11)=true)
  (a12:PySem.W.nsIn K mainGlobals "_law_same"=some (some (.ref ZC))) (l12:K.lookup ZC=some ⟨aad,ZL,.func (PySem.W.fnOf "_law_same" "_law_same" (bZ iK) (bR iK) (aC iK) .none aae aaf aag ZM Xq aah),ZZ⟩) (c12:PySem.W.codeIn K Xq "_law_same"=true) (k12:PySem.W.keepIn K (.ref ZC)=true)
  (a13:PySem.W.nsIn K mainGlobals "_law_over"=some (some (.ref Yg))) (l13:K.lookup Yg=some ⟨aai,ZP,.func (PySem.W.fnOf "_law_over" "_law_over" (bZ mU) (bR mU) (aC mU) .none aaj aak aal ZQ Xr aam),Z0⟩) (c13:PySem.W.codeIn K Xr "_law_over"=true) (k13:PySem.W.keepIn K (.ref Yg)=true)
  (a14:PySem.W.nsIn K mainGlobals "_law_right"=some (some (.ref Yh))) (l14:K.lookup Yh=some ⟨aan,ZR,.func (PySem.W.fnOf "_law_right" "_law_right" (bZ eU) (bR eU) (aC eU) .none aao aap aaq ZS Xu aar),Z1⟩) (c14:PySem.W.codeIn K Xu "_law_right"=true) (k14:PySem.W.keepIn K (.ref Yh)=true)
  (a15:PySem.W.nsIn K mainGlobals "law"=some (some (.ref ZD))) (l15:K.lookup ZD=some ⟨aas,ZV,.func (PySem.W.fnOf "law" "law" (bZ pR) (bR pR) (aC pR) .none Xv Xw Xx Xn Vp Xy),Z2⟩) (c15:PySem.W.codeIn K Vp "law"=true) (k15:PySem.W.keepIn K (.ref ZD)=true)
  (xZ:PySem.W.nsIn K mainGlobals "abs"=some none)
  (yc:PySem.W.nsIn K mainGlobals "all"=some none)
  (nZ:PySem.W.nsIn K mainGlobals "bool"=some none)
  (vA:PySem.W.nsIn K mainGlobals "int"=some none)
  (bu:PySem.W.nsIn K mainGlobals "isinstance"=some none)
  (ir:PySem.W.nsIn K mainGlobals "len"=some none)
  (n6:PySem.W.nsIn K mainGlobals "list"=some none)
  (vB:PySem.W.nsIn K mainGlobals "max"=some none)
  (ye:PySem.W.nsIn K mainGlobals "min"=some none)
  (dB:PySem.W.nsIn K mainGlobals "range"=some none)
  (qY:PySem.W.nsIn K mainGlobals "repr"=some none)
  (yf:PySem.W.nsIn K mainGlobals "set"=some none)
  (dm:PySem.W.nsIn K mainGlobals "sorted"=some none)
  (yg:PySem.W.nsIn K mainGlobals "str"=some none)
  (dU:PySem.W.nsIn K mainGlobals "tuple"=some none)
  (Ca:PySem.W.nsIn K mainGlobals "zip"=some none)
  :∃fd:FuncData,(∀(s:Shared) (v:Value),BindsTo s fd ⟨[v],[]⟩ [("_law_script",v)])∧∀base:Heap,K.In base→base.Ns mainGlobals mg→dD l.prog w K mg base rD 6 fa fd ["_law_script"] (spT K yh):=by
 have e:=hfa.symm.trans (PySem.W.mg_of X G a15)
 cases e
 have T:Txt K mg:=⟨PySem.W.mg_none_of X G xZ,PySem.W.mg_none_of X G yc,PySem.W.mg_none_of X G nZ,PySem.W.mg_none_of X G vA,PySem.W.mg_none_of X G bu,PySem.W.mg_none_of X G ir,PySem.W.mg_none_of X G n6,PySem.W.mg_none_of X G vB,PySem.W.mg_none_of X G ye,PySem.W.mg_none_of X G dB,PySem.W.mg_none_of X G qY,PySem.W.mg_none_of X G yf,PySem.W.mg_none_of X G dm,PySem.W.mg_none_of X G yg,PySem.W.mg_none_of X G dU,PySem.W.mg_none_of X G Ca⟩
 have F0:=dF (st:=cW) l0 c0 k0
 have F1:=dF (st:=fJ) l1 c1 k1
 have F2:=dF (st:=cH) l2 c2 k2
 have F3:=dF (st:=qT) l3 c3 k3
 have F4:=dF (st:=mQ) l4 c4 k4
 have F5:=dF (st:=eO) l5 c5 k5
 have F6:=dF (st:=qU) l6 c6 k6
 have F7:=dF (st:=qW) l7 c7 k7
 have F8:=dF (st:=fL) l8 c8 k8
 have F9:=dF (st:=mR) l9 c9 k9
 have F10:=dF (st:=g8) l10 c10 k10
 have F11:=dF (st:=gf) l11 c11 k11
 have F12:=dF (st:=iK) l12 c12 k12
 have F13:=dF (st:=mU) l13 c13 k13
 have F14:=dF (st:=eU) l14 c14 k14
 have F15:=dF (st:=pR) l15 c15 k15
 refine ⟨PySem.W.fnOf "law" "law" (bZ pR) (bR pR) (aC pR) .none Xv Xw Xx Xn Vp Xy,fun s v=>.of_eq rfl,fun base _ _=>?_⟩
 have zN:=wC (P:=l.prog) (w:=w) (mg:=mg) (base:=base) F0 T
 have jR:jc l.prog w K mg base "parts_over" 1 (["house","part"]:List Str) (spT K eV):=⟨f0,_,PySem.W.mg_of X G a0,k0,(F0.binds (ps:=(["house","part"]:List Str)) (fun _ _ _ _ _ _ us hl=>match us,hl with | [_,_],_=>rfl)),zN⟩
 have JD:=Em (P:=l.prog) (w:=w) (mg:=mg) (base:=base) F1 T jR
 have rm:jc l.prog w K mg base "rank_of" 2 (["house","person","part","day"]:List Str) (spT K jy):=⟨f1,_,PySem.W.mg_of X G a1,k1,(F1.binds (ps:=(["house","person","part","day"]:List Str)) (fun _ _ _ _ _ _ us hl=>match us,hl with | [_,_,_,_],_=>rfl)),JD⟩
 have zO:=wD (P:=l.prog) (w:=w) (mg:=mg) (base:=base) F2 T rm
 have jV:jc l.prog w K mg base "holders_of" 3 (["house","rank","part","day"]:List Str) (spT K eX):=⟨f2,_,PySem.W.mg_of X G a2,k2,(F2.binds (ps:=(["house","rank","part","day"]:List Str)) (fun _ _ _ _ _ _ us hl=>match us,hl with | [_,_,_,_],_=>rfl)),zO⟩
 have Vq:=QW (P:=l.prog) (w:=w) (mg:=mg) (base:=base) F3 T
 have Eo:jc l.prog w K mg base "_law_box" 1 (["_law_script","_law_k"]:List Str) (spT K vC):=⟨f3,_,PySem.W.mg_of X G a3,k3,(F3.binds (ps:=(["_law_script","_law_k"]:List Str)) (fun _ _ _ _ _ _ us hl=>match us,hl with | [_,_],_=>rfl)),Vq⟩
 have Rh:=Nb (P:=l.prog) (w:=w) (mg:=mg) (base:=base) F4 T
 have aN:jc l.prog w K mg base "_law_take" 1 (["_law_box_here","_law_many_here"]:List Str) (spT K aJ):=⟨f4,_,PySem.W.mg_of X G a4,k4,(F4.binds (ps:=(["_law_box_here","_law_many_here"]:List Str)) (fun _ _ _ _ _ _ us hl=>match us,hl with | [_,_],_=>rfl)),Rh⟩
 have Nx:=Jw (P:=l.prog) (w:=w) (mg:=mg) (base:=base) F5 T aN
 have vL:jc l.prog w K mg base "_law_names" 2 (["_law_box_here","_law_many_here"]:List Str) (spT K lU):=⟨f5,_,PySem.W.mg_of X G a5,k5,(F5.binds (ps:=(["_law_box_here","_law_many_here"]:List Str)) (fun _ _ _ _ _ _ us hl=>match us,hl with | [_,_],_=>rfl)),Nx⟩
 have Vr:=QX (P:=l.prog) (w:=w) (mg:=mg) (base:=base) F6 T aN
 have jT:jc l.prog w K mg base "_law_day" 2 (["_law_box_here"]:List Str) (spT K jk):=⟨f6,_,PySem.W.mg_of X G a6,k6,(F6.binds (ps:=(["_law_box_here"]:List Str)) (fun _ _ _ _ _ _ us hl=>match us,hl with | [_],_=>rfl)),Vr⟩
 have Vs:=QZ (P:=l.prog) (w:=w) (mg:=mg) (base:=base) F7 T aN
 have zL:jc l.prog w K mg base "_law_sum" 2 (["_law_box_here"]:List Str) (spT K q9):=⟨f7,_,PySem.W.mg_of X G a7,k7,(F7.binds (ps:=(["_law_box_here"]:List Str)) (fun _ _ _ _ _ _ us hl=>match us,hl with | [_],_=>rfl)),Vs⟩
 have Ew:=Cd (P:=l.prog) (w:=w) (mg:=mg) (base:=base) F8 T aN
 have jU:jc l.prog w K mg base "_law_numbers" 2 (["_law_box_here","_law_many_here"]:List Str) (spT K fM):=⟨f8,_,PySem.W.mg_of X G a8,k8,(F8.binds (ps:=(["_law_box_here","_law_many_here"]:List Str)) (fun _ _ _ _ _ _ us hl=>match us,hl with | [_,_],_=>rfl)),Ew⟩
 have Ri:=Nf (P:=l.prog) (w:=w) (mg:=mg) (base:=base) F9 T aN
 have gM:jc l.prog w K mg base "_law_many" 2 (["_law_box_here","_law_most"]:List Str) (spT K fU):=⟨f9,_,PySem.W.mg_of X G a9,k9,(F9.binds (ps:=(["_law_box_here","_law_most"]:List Str)) (fun _ _ _ _ _ _ us hl=>match us,hl with | [_,_],_=>rfl)),Ri⟩
 have Ny:=Jx (P:=l.prog) (w:=w) (mg:=mg) (base:=base) F10 T aN gM
 have vK:jc l.prog w K mg base "_law_parts" 3 (["_law_box_here","_law_names_here"]:List Str) (spT K lW):=⟨Ye,_,PySem.W.mg_of X G a10,k10,(F10.binds (ps:=(["_law_box_here","_law_names_here"]:List Str)) (fun _ _ _ _ _ _ us hl=>match us,hl with | [_,_],_=>rfl)),Ny⟩
 have Nz:=Jy (P:=l.prog) (w:=w) (mg:=mg) (base:=base) F11 T aN jT zL jU gM vK
 have vM:jc l.prog w K mg base "_law_house" 4 (["_law_box_here","_law_names_here"]:List Str) (spT K lY):=⟨f11,_,PySem.W.mg_of X G a11,k11,(F11.binds (ps:=(["_law_box_here","_law_names_here"]:List Str)) (fun _ _ _ _ _ _ us hl=>match us,hl with | [_,_],_=>rfl)),Nz⟩
 have pY:jc l.prog w K mg base "_law_same" 3 (["_law_found","_law_due"]:List Str) (spT K (eY 3)):=yj (PySem.W.mg_of X G a12) k12 (F12.binds (ps:=(["_law_found","_law_due"]:List Str)) (fun _ _ _ _ _ _ us hl=>match us,hl with | [_,_],_=>rfl)) F12 T 3
 have Rj:=Nh (P:=l.prog) (w:=w) (mg:=mg) (base:=base) F13 T
 have zM:jc l.prog w K mg base "_law_over" 1 (["_law_parts_here"]:List Str) (spT K pU):=⟨Yg,_,PySem.W.mg_of X G a13,k13,(F13.binds (ps:=(["_law_parts_here"]:List Str)) (fun _ _ _ _ _ _ us hl=>match us,hl with | [_],_=>rfl)),Rj⟩
 have NB:=Jz (P:=l.prog) (w:=w) (mg:=mg) (base:=base) F14 T jV pY
 have vN:jc l.prog w K mg base "_law_right" 5 (["_law_house_here","_law_over_here","_law_part","_law_day_here","_law_twice"]:List Str) (spT K mq):=⟨Yh,_,PySem.W.mg_of X G a14,k14,(F14.binds (ps:=(["_law_house_here","_law_over_here","_law_part","_law_day_here","_law_twice"]:List Str)) (fun _ _ _ _ _ _ us hl=>match us,hl with | [_,_,_,_,_],_=>rfl)),NB⟩
 have o_law:=Vm (P:=l.prog) (w:=w) (mg:=mg) (base:=base) F15 T Eo aN vL jT vM zM vN
 exact o_law
theorem walk {l:PySem.W.OpenLaw} {q:Program} {loose:List Str} {XP:(Str→Option Value)→Heap→Prop} {YP:World→Heap→Prop} {d:DefRec} {K:Params→PySem.W.Frag} (hn:l.most=some 63) (hdf:d.params.defaults=[])
  (hY:∀(w:World) (h:Heap),YP w h→(K w.params).In h)
  (F:∀(w:World) (mg:Str→Option Value) (fa:Addr) (h:Heap),(K w.params).In h→h.Ns mainGlobals mg→mg d.name=some (.ref fa)→
   ∃fd:FuncData,(∀(s:Shared) (u:Value),BindsTo s fd ⟨[u],[]⟩ [("_law_script",u)])∧∀base:Heap,(K w.params).In base→base.Ns mainGlobals mg→dD l.prog w (K w.params) mg base rD 6 fa fd ["_law_script"] (spT (K w.params) yh)):
  PySem.W.WalkO q loose XP YP l.row.toRowW d [] (fun f vs=>PySem.call f vs):=
 L2.O3 (n:=63) (k:=6) (x:="_law_script") (CX:=fun _=>rD) (sp:=fun w=>spT (K w.params) yh) hn (by decide) hdf ⟨rfl,by decide,by decide,rfl⟩ hY F (fun _ _ a ns hl _ hS=>let ⟨_,h⟩:=Nv ns hl; U5 hS h) fun _ _ _ _ _ z=>z
end Zr
open PySem PySem.W PyProof.Rows
set_option maxRecDepth 100000 in
set_option maxHeartbeats 0 in
theorem PySem.Challenge.cw_rankseals_k06_holders_of_ranks_holds : PySem.Challenge.rw_rankseals_k06_holders_of_ranks.Holds := by
 w_on; o_law; k_head; (case hw=>w_witness2)
 k_fill
 refine Zr.walk (l:=PySem.Challenge.rw_rankseals_k06_holders_of_ranks) rfl rfl (fun w h Y=>PySem.W.kIn_of Y) ?F
 case F=>
  intro w mg fa h KX G hmg
  refine' Zr.all_mk KX G hmg ?a0 ?l0 ?c0 ?k0 ?a1 ?l1 ?c1 ?k1 ?a2 ?l2 ?c2 ?k2 ?a3 ?l3 ?c3 ?k3 ?a4 ?l4 ?c4 ?k4 ?a5 ?l5 ?c5 ?k5 ?a6 ?l6 ?c6 ?k6 ?a7 ?l7 ?c7 ?k7 ?a8 ?l8 ?c8 ?k8 ?a9 ?l9 ?c9 ?k9 ?a10 ?l10 ?c10 ?k10 ?a11 ?l11 ?c11 ?k11 ?a12 ?l12 ?c12 ?k12 ?a13 ?l13 ?c13 ?k13 ?a14 ?l14 ?c14 ?k14 ?a15 ?l15 ?c15 ?k15 ?xZ ?yc ?nZ ?vA ?bu ?ir ?n6 ?vB ?ye ?dB ?qY ?yf ?dm ?yg ?dU ?Ca
  (case a0=>k_is)
  (case l0=>k_is)
  (case c0=>k_is)
  (case k0=>k_is)
  (case a1=>k_is)
  (case l1=>k_is)
  (case c1=>k_is)
  (case k1=>k_is)
  (case a2=>k_is)
  (case l2=>k_is)
  (case c2=>k_is)
  (case k2=>k_is)
  (case a3=>k_is)
  (case l3=>k_is)
  (case c3=>k_is)
  (case k3=>k_is)
  (case a4=>k_is)
  (case l4=>k_is)
  (case c4=>k_is)
  (case k4=>k_is)
  (case a5=>k_is)
  (case l5=>k_is)
  (case c5=>k_is)
  (case k5=>k_is)
  (case a6=>k_is)
  (case l6=>k_is)
  (case c6=>k_is)
  (case k6=>k_is)
  (case a7=>k_is)
  (case l7=>k_is)
  (case c7=>k_is)
  (case k7=>k_is)
  (case a8=>k_is)
  (case l8=>k_is)
  (case c8=>k_is)
  (case k8=>k_is)
  (case a9=>k_is)
  (case l9=>k_is)
  (case c9=>k_is)
  (case k9=>k_is)
  (case a10=>k_is)
  (case l10=>k_is)
  (case c10=>k_is)
  (case k10=>k_is)
  (case a11=>k_is)
  (case l11=>k_is)
  (case c11=>k_is)
  (case k11=>k_is)
  (case a12=>k_is)
  (case l12=>k_is)
  (case c12=>k_is)
  (case k12=>k_is)
  (case a13=>k_is)
  (case l13=>k_is)
  (case c13=>k_is)
  (case k13=>k_is)
  (case a14=>k_is)
  (case l14=>k_is)
  (case c14=>k_is)
  (case k14=>k_is)
  (case a15=>k_is)
  (case l15=>k_is)
  (case c15=>k_is)
  (case k15=>k_is)
  (case xZ=>k_is)
  (case yc=>k_is)
  (case nZ=>k_is)
  (case vA=>k_is)
  (case bu=>k_is)
  (case ir=>k_is)
  (case n6=>k_is)
  (case vB=>k_is)
  (case ye=>k_is)
  (case dB=>k_is)
  (case qY=>k_is)
  (case yf=>k_is)
  (case dm=>k_is)
  (case yg=>k_is)
  (case dU=>k_is)
  (case Ca=>k_is)
