import PyProof.Rows.All
import Wide.All
import OpenK.AllK
import Wide.FinOn
import Lean
import PyProof.EqAt
import PyProof.EqKinds
import PyProof.TupleCall
import PySem.Challenge.RW_rankseals_k05_ranks_held
set_option Elab.async false
set_option linter.all false
set_option maxRecDepth 100000
namespace L2
open PySem PySem.Spec PyProof.Rows
abbrev Key:=Sum Int Str
def yP:Key→Value→Bool
 | .inl k,v=>Value.isInt k v
 | .inr x,v=>Value.isStrOf x v
def Zo (w:World):Key→Int
 | .inl k=>hashInt k
 | .inr x=>hashStr w x
theorem dD:∀{k:Key} {v:Value},yP k v=true→(∃i t,k=Sum.inl i∧v=Value.int i t)∨(∃x t,k=Sum.inr x∧v=Value.str x t)
 | .inl i,v,h=>by
  obtain ⟨t,e⟩:=Value.isInt_shape (k:=i) (v:=v) h
  exact .inl ⟨i,t,rfl,e⟩
 | .inr x,v,h=>by
  obtain ⟨t,e⟩:=Value.isStrOf_shape (x:=x) (v:=v) h
  exact .inr ⟨x,t,rfl,e⟩
theorem JP (i:Int) (t:Tok):yP (.inl i) (.int i t)=true:=by simp [yP,Value.isInt]
theorem JQ (x:Str) (t:Tok):yP (.inr x) (.str x t)=true:=by simp [yP,Value.isStrOf]
theorem Uq (a b:Int):decide ((Sum.inl a:Key)=Sum.inl b)=(a==b):=by
 by_cases e:a=b
 ·subst e; simp
 ·have h:¬(Sum.inl a:Key)=Sum.inl b:=fun q=>e (Sum.inl.inj q)
  rw [decide_eq_false h]
  exact (beq_eq_false_iff_ne.mpr e).symm
theorem Ur (a b:Str):decide ((Sum.inr a:Key)=Sum.inr b)=decide (a=b):=by
 by_cases e:a=b
 ·subst e; simp
 ·have h:¬(Sum.inr a:Key)=Sum.inr b:=fun q=>e (Sum.inr.inj q)
  rw [decide_eq_false h,decide_eq_false e]
theorem Us (a:Int) (b:Str):decide ((Sum.inl a:Key)=Sum.inr b)=false:=decide_eq_false (fun q=>nomatch q)
theorem Ut (a:Str) (b:Int):decide ((Sum.inr a:Key)=Sum.inl b)=false:=decide_eq_false (fun q=>nomatch q)
def dJ (prog:Program) (w:World):PySem.KeyKind prog w Key where
 is:=yP
 hash:=Zo w
 inj:=fun v a b ha hb=>by
  rcases dD ha with ⟨i,t,rfl,rfl⟩ | ⟨x,t,rfl,rfl⟩
  ·rcases dD hb with ⟨j,u,rfl,e⟩ | ⟨y,u,rfl,e⟩
   ·injection e with e1 _; rw [e1]
   ·exact nomatch e
  ·rcases dD hb with ⟨j,u,rfl,e⟩ | ⟨y,u,rfl,e⟩
   ·exact nomatch e
   ·injection e with e1 _; rw [e1]
 byValue:=fun k v h=>by
  rcases dD h with ⟨i,t,rfl,rfl⟩ | ⟨x,t,rfl,rfl⟩ <;> rfl
 pyHash:=fun hv h=>by
  rcases dD hv with ⟨i,t,rfl,rfl⟩ | ⟨x,t,rfl,rfl⟩
  ·exact wpAny_pyHash_int h
  ·exact wpAny_pyHash_str h
 eqBool:=fun hu hv h=>by
  rcases dD hu with ⟨i,t,rfl,rfl⟩ | ⟨x,t,rfl,rfl⟩
  ·rcases dD hv with ⟨j,u,rfl,rfl⟩ | ⟨y,u,rfl,rfl⟩
   ·rw [Uq] at h; exact wpAny_eqBool_int h
   ·rw [Us] at h; exact SeqAt.EqAt.int_str i t y u _ _ _ _ h
  ·rcases dD hv with ⟨j,u,rfl,rfl⟩ | ⟨y,u,rfl,rfl⟩
   ·rw [Ut] at h; exact SeqAt.EqAt.str_int x t j u _ _ _ _ h
   ·rw [Ur] at h; exact wpAny_eqBool_str h
 «strs»:=fun k x t v h=>by
  rcases dD h with ⟨i,u,rfl,e⟩ | ⟨y,u,rfl,e⟩
  ·exact nomatch e
  ·injection e with e1 _
   subst e1
   cases v <;> rfl
theorem Cm (prog:Program) (w:World) (i:Int) (t:Tok):(dJ prog w).is (.inl i) (.int i t)=true:=JP i t
theorem Cp (prog:Program) (w:World) (x:Str) (t:Tok):(dJ prog w).is (.inr x) (.str x t)=true:=JQ x t
end L2
namespace L2
open PySem PySem.Spec PyProof.Rows
inductive V where
 | non | bl (b:Bool) | int (i:Int) | str (x:Str) | JR (b:Array UInt8) | flt (b:UInt64) | ref (a:Addr) | ty (n:String)
 deriving DecidableEq
def RelV:V→Value→Prop
 | .non,u=>u=Value.none
 | .bl b,u=>u=Value.bool b
 | .int i,u=>∃t,u=Value.int i t
 | .str x,u=>∃t,u=Value.str x t
 | .JR b,u=>∃t,u=Value.bytes b t
 | .flt b,u=>∃t,u=Value.float b t
 | .ref a,u=>u=Value.ref a
 | .ty n,u=>u=Value.type n
abbrev Vals:List V→List Value→Prop:=Paired RelV
theorem Vals.length {xs:List V} {us:List Value} (r:Vals xs us):xs.length=us.length:=Paired.length r
theorem Vals.get:∀{xs:List V} {us:List Value} {i:Nat} {x:V},Vals xs us→xs[i]?=some x→∃u,us[i]?=some u∧RelV x u
 | _,_,_,_,.nil,e=>by simp at e
 | _,_,0,_,.cons r _,e=>by simp at e; subst e; exact ⟨_,rfl,r⟩
 | _,_,i + 1,x,.cons _ t,e=>by
  obtain ⟨u,h1,h2⟩:=Vals.get (i:=i) (x:=x) t (by simpa using e)
  exact ⟨u,by simpa using h1,h2⟩
theorem Vals.set {x:V} {u:Value} (r:RelV x u):∀{xs:List V} {us:List Value} (i:Nat),Vals xs us→Vals (xs.set i x) (us.set i u)
 | _,_,_,.nil=>.nil
 | _,_,0,.cons _ t=>.cons r t
 | _,_,i + 1,.cons q t=>.cons q (Vals.set r i t)
theorem Vals.append:∀{xs ys:List V} {us ws:List Value},Vals xs us→Vals ys ws→Vals (xs++ys) (us++ws)
 | _,_,_,_,.nil,s=>s
 | _,_,_,_,.cons r t,s=>.cons r (Vals.append t s)
theorem Vals.take:∀{xs:List V} {us:List Value} (n:Nat),Vals xs us→Vals (xs.take n) (us.take n)
 | _,_,0,_=>.nil
 | _,_,_ + 1,.nil=>.nil
 | _,_,n + 1,.cons r t=>.cons r (Vals.take n t)
theorem Vals.drop:∀{xs:List V} {us:List Value} (n:Nat),Vals xs us→Vals (xs.drop n) (us.drop n)
 | _,_,0,r=>r
 | _,_,_ + 1,.nil=>.nil
 | _,_,n + 1,.cons _ t=>Vals.drop n t
def tL:Option V→Option Value→Prop
 | some v,some u=>RelV v u
 | none,none=>True
 | _,_=>False
def KV {κ:Type}:List (κ×V)→List (κ×Value)→Prop:=Paired fun (p:κ×V) (q:κ×Value)=>p.1=q.1∧RelV p.2 q.2
def kV:Key→V
 | .inl i=>.int i
 | .inr x=>.str x
inductive HO where
 | lst (xs:List V)
 | tup (xs:List V)
 | dK (kvs:List (Key×V)) | dT (kvs:List (List Key×V))
 | set (S:Int→Bool) (n:Nat)
 | ins (C dx:Addr) (fs:List (Str×V))
 | own (x:Addr)
 | xd (fs:List (Str×V))
 | met (f x:Addr)
 | Zq (lo hi:Int)
 | Cj (o:Obj) (u:HO)
 | Uu (ps:Array Value)
 | ext (φ:Heap→Prop)
abbrev Hp:=Addr→Option HO
def upd (H:Hp) (a:Addr) (o:HO):Hp:=fun b=>if b=a then some o else H b
theorem aX {H:Hp} {a:Addr} {o:HO}:upd H a o a=some o:=by unfold upd; rw [if_pos rfl]
theorem aY {H:Hp} {a b:Addr} {o:HO} (h:b≠a):upd H a o b=H b:=by unfold upd; rw [if_neg h]
theorem HJ {H:Hp} {a:Addr} {o u:HO}:upd (upd H a o) a u=upd H a u:=by
 funext b; unfold upd; split <;> rfl
theorem Ln {H:Hp} {a b:Addr} {o u:HO} (h:H a=some o) (h':H b=some u) (d:o≠u):a≠b:=by
 intro e; subst e; rw [h] at h'; exact d (Option.some.inj h')
theorem cu {H:Hp} {a b:Addr} {o:HO} (h:H a=some o) (h':H b=none):a≠b:=by
 intro e; subst e; rw [h] at h'; cases h'
section
variable (P:Program) (w:World)
def cF (H:Hp) (h:Heap) (a:Addr):HO→Prop
 | .lst xs=>xs.length≤sizeLine∧∃(its:List Value) (n:Nat),Vals xs its∧h.get? a=some { cls:=.type "list",data:=.seq its.toArray n }
 | .tup xs=>xs.length≤sizeLine∧∃its:List Value,Vals xs its∧IsTup h a its.toArray
 | .dK kvs=>kvs.length≤sizeLine∧(a==sysModules)=false∧∃vs,KV kvs vs∧h.DictOf (dJ P w) a vs
 | .dT kvs=>kvs.length≤sizeLine∧(a==sysModules)=false∧∃xs:List (List Key×Addr×Value),
   Paired (fun (p:List Key×V) (q:List Key×Addr×Value)=>p.1=q.1∧H q.2.1=some (.tup (p.1.map kV))∧RelV p.2 q.2.2) kvs xs∧
   ∃o es ep,h.get? a=some o∧o.ExactDict∧o.data=.dict es ep∧es.toList=xs.map (entryOfKey (tupleKind (dJ P w)))∧(xs.map (·.1)).Nodup
 | .set S n=>h.SetOf (intKind P w) a S n
 | .ins C dx fs=>H dx=some (.own a)∧fs.length≤1000∧dx≠a∧h.get? a=some (PySem.W.instObj C dx)∧
   ∃mA,h.Ns1 dx mA∧(∀f,tL (fs.lookup f) (mA f))∧PySem.Within mA (fs.map (·.1))
 | .own _=>∃o,h.get? a=some o
 | .xd fs=>∃mA,h.Ns1 a mA∧∀f,tL (fs.lookup f) (mA f)
 | .Zq lo hi=>∃t u v,h.get? a=some { cls:=.type "range",data:=.fields #[.int lo t,.int hi u,.int 1 v] }
 | .Cj o u=>h.get? a=some o∧cF H h a u
 | .Uu ps=>h.get? a=some { cls:=.none,data:=.fields ps }
 | .met f x=>h.get? a=some (PySem.W.methodObj (.ref f) (.ref x))
 | .ext φ=>φ h∧(∃o,h.get? a=some o)∧∀h1 h2:Heap,φ h1→(∀o,h1.get? a=some o→h2.get? a=some o)→φ h2
def rm (H:Hp) (h:Heap):Prop:=∀a o,H a=some o→cF P w H h a o
end
section
variable {P:Program} {w:World} {H H':Hp} {h h':Heap} {a:Addr} {o:HO}
theorem cF.lt (x:cF P w H h a o):a < h.objs.size:=by
 cases o with
 | lst xs=>obtain ⟨_,_,_,_,e⟩:=x; exact Heap.lt_size e
 | tup xs=>obtain ⟨_,_,_,p⟩:=x; exact p.lt
 | dK kvs=>obtain ⟨_,_,_,_,o,_,_,e,_⟩:=x; exact Heap.lt_size e
 | dT kvs=>obtain ⟨_,_,_,_,o,_,_,e,_⟩:=x; exact Heap.lt_size e
 | set S n=>obtain ⟨o,_,_,_,e,_⟩:=x; exact Heap.lt_size e
 | ins C dx fs=>obtain ⟨_,_,_,e,_⟩:=x; exact Heap.lt_size e
 | own y=>obtain ⟨_,e⟩:=x; exact Heap.lt_size e
 | xd fs=>obtain ⟨_,⟨_,_,_,e,_⟩,_⟩:=x; exact Heap.lt_size e
 | Zq lo hi=>obtain ⟨_,_,_,e⟩:=x; exact Heap.lt_size e
 | Cj ob u=>obtain ⟨e,_⟩:=x; exact Heap.lt_size e
 | Uu ps=>exact Heap.lt_size (show h.get? a=some _ from x)
 | met f y=>exact Heap.lt_size (show h.get? a=some _ from x)
 | ext φ=>obtain ⟨_,⟨_,e⟩,_⟩:=x; exact Heap.lt_size e
theorem Paired.Uv {α β:Type} {F G:α→β→Prop}:∀{l₁:List α} {l₂:List β},Paired F l₁ l₂→(∀a b,F a b→G a b)→Paired G l₁ l₂
 | _,_,.nil,_=>.nil
 | _,_,.cons r t,f=>.cons (f _ _ r) (Paired.Uv t f)
theorem cF.stay (x:cF P w H h a o) (k:∀b u,(b=a∨H b=some (.own a))→h.get? b=some u→h'.get? b=some u)
  (ho:∀b,H b=some (.own a)→H' b=some (.own a)) (ht:∀b xs,H b=some (.tup xs)→H' b=some (.tup xs)):cF P w H' h' a o:=by
 induction o with
 | lst xs=>obtain ⟨z,its,n,r,e⟩:=x; exact ⟨z,its,n,r,k _ _ (.inl rfl) e⟩
 | tup xs=>obtain ⟨z,its,r,ob,e,c⟩:=x; exact ⟨z,its,r,ob,k _ _ (.inl rfl) e,c⟩
 | dK kvs=>obtain ⟨z,y,vs,r,ob,es,ep,e,c⟩:=x; exact ⟨z,y,vs,r,ob,es,ep,k _ _ (.inl rfl) e,c⟩
 | dT kvs=>
  obtain ⟨z,y,xs,r,ob,es,ep,e,c⟩:=x
  exact ⟨z,y,xs,Paired.Uv r fun p q z=>⟨z.1,ht _ _ z.2.1,z.2.2⟩,ob,es,ep,k _ _ (.inl rfl) e,c⟩
 | set S n=>obtain ⟨ob,es,ep,t,e,c⟩:=x; exact ⟨ob,es,ep,t,k _ _ (.inl rfl) e,c⟩
 | ins C dx fs=>
  obtain ⟨d,z,ne,e,mA,⟨od,es,ep,e2,c⟩,r⟩:=x
  exact ⟨ho _ d,z,ne,k _ _ (.inl rfl) e,mA,⟨od,es,ep,k _ _ (.inr d) e2,c⟩,r⟩
 | own y=>obtain ⟨ob,e⟩:=x; exact ⟨ob,k _ _ (.inl rfl) e⟩
 | xd fs=>obtain ⟨mA,⟨od,es,ep,e,c⟩,r⟩:=x; exact ⟨mA,⟨od,es,ep,k _ _ (.inl rfl) e,c⟩,r⟩
 | Zq lo hi=>obtain ⟨t,u,v,e⟩:=x; exact ⟨t,u,v,k _ _ (.inl rfl) e⟩
 | Cj ob u ih=>obtain ⟨e,q⟩:=x; exact ⟨k _ _ (.inl rfl) e,ih q⟩
 | Uu ps=>
  have e:h.get? a=some { cls:=.none,data:=.fields ps }:=x
  show h'.get? a=some { cls:=.none,data:=.fields ps }
  exact k a _ (.inl rfl) e
 | met f y=>
  have e:h.get? a=some (PySem.W.methodObj (.ref f) (.ref y)):=x
  show h'.get? a=some (PySem.W.methodObj (.ref f) (.ref y))
  exact k a _ (.inl rfl) e
 | ext φ=>obtain ⟨p,⟨o,e⟩,st⟩:=x; exact ⟨st _ _ p fun o q=>k _ _ (.inl rfl) q,⟨o,k _ _ (.inl rfl) e⟩,st⟩
theorem rm.lt (x:rm P w H h) (e:H a=some o):a < h.objs.size:=(x a o e).lt
theorem rm.fresh (x:rm P w H h) (e:h.objs.size≤a):H a=none:=by
 cases q:H a with
 | none=>rfl
 | some u=>exact absurd (Nat.lt_of_lt_of_le (x.lt q) e) (Nat.lt_irrefl _)
theorem rm.kept (x:rm P w H h) (k:∀b u,h.get? b=some u→h'.get? b=some u):rm P w H h':=fun a o e=>
 (x a o e).stay (fun b u _ q=>k b u q) (fun _ q=>q) fun _ _ q=>q
theorem rm.laid (x:rm P w H h) (k:∀b u,h.get? b=some u→h'.get? b=some u) (hp:h.objs.size≤a) (new:cF P w (upd H a o) h' a o):rm P w (upd H a o) h':=fun b u e=>by
 have hn:=x.fresh hp
 by_cases hb:b=a
 ·subst hb; rw [aX] at e; cases e; exact new
 ·rw [aY hb] at e
  exact (x b u e).stay (fun c v _ q=>k c v q) (fun c q=>by rw [aY (cu q hn)]; exact q) fun c xs q=>by rw [aY (cu q hn)]; exact q
end
def Rd (H:Hp) (a:Addr) (u:HO):Prop:=H a=some u∨∃o,H a=some (.Cj o u)
theorem Rd.of {H:Hp} {a:Addr} {u:HO} (h:H a=some u):Rd H a u:=.inl h
theorem Rd.ok {P:Program} {w:World} {H:Hp} {h:Heap} {a:Addr} {u:HO} (r:Rd H a u) (x:rm P w H h):cF P w H h a u:=by
 rcases r with r | ⟨o,r⟩
 ·exact x a u r
 ·obtain ⟨_,q⟩:=x a _ r
  exact q
def W3:Option HO→Prop
 | some (.lst _)=>True
 | some (.dK _)=>True
 | some (.dT _)=>True
 | some (.set _ _)=>True
 | some (.ins _ _ _)=>True
 | some (.ext _)=>True
 | _=>False
section
variable {P:Program} {w:World} {H:Hp} {h h':Heap} {x e:Addr} {o':HO}
theorem rm.write (ok:rm P w H h) (mu:W3 (H x)) (he:e=x∨H e=some (.own x)) (k:∀b u,b≠e→h.get? b=some u→h'.get? b=some u) (heo:∃u,h'.get? e=some u)
  (new:cF P w (upd H x o') h' x o'):rm P w (upd H x o') h':=fun b u q=>by
 have W4:∀c y,H c=some (.own y)→c≠x:=fun c y r z=>by subst z; rw [r] at mu; exact mu
 have Zr:∀c xs,H c=some (.tup xs)→c≠x:=fun c xs r z=>by subst z; rw [r] at mu; exact mu
 by_cases hb:b=x
 ·subst hb; rw [aX] at q; cases q; exact new
 ·rw [aY hb] at q
  by_cases hbe:b=e
  ·have q':H b=some (.own x):=by
    rcases he with z | z
    ·exact absurd (hbe.trans z) hb
    ·rw [hbe]; exact z
   rw [q] at q'; cases q'
   obtain ⟨v,hv⟩:=heo
   exact ⟨v,by rw [hbe]; exact hv⟩
  ·refine (ok b u q).stay (fun c v hc r=>k c v ?_ r) (fun c r=>by rw [aY (W4 c b r)]; exact r) fun c xs r=>by rw [aY (Zr c xs r)]; exact r
   rcases hc with rfl | hc
   ·exact hbe
   ·rintro rfl
    rcases he with z | z
    ·exact W4 c b hc z
    ·rw [hc] at z; cases z; exact hb rfl
end
structure Un (fs ex:List Addr) (H H':Hp) (h h':Heap):Prop where
 keep:∀b o,h.get? b=some o→H b=none→b∉fs→b∉ex→h'.get? b=some o
 slot:∀b o,h.get? b=some o→H b=none→b∈fs→b∉ex→∃sl,h'.get? b=some { o with slots:=sl }
 free:∀b o,h.get? b=some o→H b=none→b∉ex→H' b=none
 there:∀b o,h.get? b=some o→b∉ex→∃o',h'.get? b=some o'
 tups:∀b xs,H b=some (.tup xs)→H' b=some (.tup xs)
 tM:∀b o u,H b=some (.Cj o u)→H' b=some (.Cj o u)
 uU:∀b ps,H b=some (.Uu ps)→∃more,H' b=some (.Uu (ps++more))
section
variable {fs fs' ex ex':List Addr} {H H1 H2:Hp} {h h1 h2 h':Heap} {a x e:Addr} {o:HO}
theorem Un.any (u:Un fs ex H H1 h h1) {b:Addr} {ob:Obj} (q:h.get? b=some ob) (n:H b=none) (hx:b∉ex):∃sl,h1.get? b=some { ob with slots:=sl }:=by
 by_cases hb:b∈fs
 ·exact u.slot b ob q n hb hx
 ·exact ⟨ob.slots,u.keep b ob q n hb hx⟩
theorem Un.trans (a:Un fs ex H H1 h h1) (b:Un fs ex H1 H2 h1 h2):Un fs ex H H2 h h2 where
 keep:=fun c ob q n hc hx=>b.keep c ob (a.keep c ob q n hc hx) (a.free c ob q n hx) hc hx
 slot:=fun c ob q n hc hx=>by
  obtain ⟨sl,e1⟩:=a.slot c ob q n hc hx
  obtain ⟨sl',e2⟩:=b.slot c _ e1 (a.free c ob q n hx) hc hx
  exact ⟨sl',e2⟩
 free:=fun c ob q n hx=>by
  obtain ⟨o',e1⟩:=a.there c ob q hx
  exact b.free c o' e1 (a.free c ob q n hx) hx
 there:=fun c ob q hx=>by
  obtain ⟨o',e1⟩:=a.there c ob q hx
  exact b.there c o' e1 hx
 tups:=fun c xs q=>b.tups c xs (a.tups c xs q)
 tM:=fun c ob xs q=>b.tM c ob xs (a.tM c ob xs q)
 uU:=fun c ps q=>by
  obtain ⟨m1,e1⟩:=a.uU c ps q
  obtain ⟨m2,e2⟩:=b.uU c _ e1
  exact ⟨m1++m2,by rw [e2,Array.append_assoc]⟩
theorem Un.kept (k:∀b u,h.get? b=some u→h'.get? b=some u):Un fs ex H H h h':=
 ⟨fun b ob q _ _ _=>k b ob q,fun b ob q _ _ _=>⟨ob.slots,k b ob q⟩,fun _ _ _ n _=>n,fun b ob q _=>⟨ob,k b ob q⟩,fun _ _ q=>q,fun _ _ _ q=>q,fun _ ps q=>⟨#[],by rw [q]; simp⟩⟩
theorem Un.refl:Un fs ex H H h h:=Un.kept fun _ _ q=>q
theorem Un.laid (k:∀b u,h.get? b=some u→h'.get? b=some u) (hp:h.objs.size≤a) (hn:H a=none):Un fs ex H (upd H a o) h h' where
 keep:=fun b u q _ _ _=>k b u q
 slot:=fun b u q _ _ _=>⟨u.slots,k b u q⟩
 free:=fun b u q n _=>by rw [aY (Nat.ne_of_lt (Nat.lt_of_lt_of_le (Heap.lt_size q) hp))]; exact n
 there:=fun b u q _=>⟨u,k b u q⟩
 tups:=fun b xs q=>by rw [aY (cu q hn)]; exact q
 tM:=fun b u xs q=>by rw [aY (cu q hn)]; exact q
 uU:=fun b ps q=>⟨#[],by rw [aY (cu q hn),q]; simp⟩
theorem Un.write (mu:W3 (H x)) (he:e=x∨H e=some (.own x)) (k:∀b u,b≠e→h.get? b=some u→h'.get? b=some u) (heo:∃u,h'.get? e=some u):Un fs ex H (upd H x o) h h':=by
 have hx:∀b,H b=none→b≠x:=fun b n z=>by subst z; rw [n] at mu; exact mu
 have hb:∀b,H b=none→b≠e:=fun b n z=>by
  subst z
  rcases he with r | r
  ·exact hx b n r
  ·rw [n] at r; cases r
 have hm:∀b u,H b=some u→¬W3 (some u)→b≠x:=fun b u q nm z=>by subst z; rw [q] at mu; exact nm mu
 refine ⟨fun b u q n _ _=>k b u (hb b n) q,fun b u q n _ _=>⟨u.slots,k b u (hb b n) q⟩,fun b u q n _=>by rw [aY (hx b n)]; exact n,fun b u q _=>?_,
  fun b xs q=>by rw [aY (hm b _ q fun z=>z)]; exact q,fun b u xs q=>by rw [aY (hm b _ q fun z=>z)]; exact q,fun b ps q=>⟨#[],by rw [aY (hm b _ q fun z=>z),q]; simp⟩⟩
 by_cases hbe:b=e
 ·subst hbe; exact heo
 ·exact ⟨u,k b u hbe q⟩
theorem Un.mono (u:Un fs ex H H1 h h1) (hs:∀b∈fs,b∈fs') (hx:∀b∈ex,b∈ex'):Un fs' ex' H H1 h h1:=
 ⟨fun b ob q n hb he=>u.keep b ob q n (fun z=>hb (hs b z)) fun z=>he (hx b z),fun _ _ q n _ he=>u.any q n fun z=>he (hx _ z),fun b ob q n he=>u.free b ob q n fun z=>he (hx b z),fun b ob q he=>u.there b ob q fun z=>he (hx b z),u.tups,u.tM,u.uU⟩
end
def Y4 (h:Heap) (H:Hp):List Addr:=(List.range h.objs.size).filter fun a=>(H a).isSome
def z7 (h:Heap) (H:Hp):Heap:=PySem.W.hideAll h (Y4 h H)
theorem JS (h:Heap) (H:Hp):(z7 h H).objs.size=h.objs.size:=PySem.W.hideAll_size _ _
theorem Lp {h:Heap} {H:Hp} {b:Addr} {o:Obj} (e:h.get? b=some o) (n:H b=none):(z7 h H).get? b=some o:=
 PySem.W.hideAll_get _ e fun hm=>by
  have q:(H b).isSome=true:=(List.mem_filter.mp hm).2
  rw [n] at q; simp at q
theorem Qs {h:Heap} {H:Hp} {b:Addr} {o:Obj} (e:(z7 h H).get? b=some o):h.get? b=some o∧H b=none:=by
 have e':h.get? b=some o:=PySem.W.of_hideAll (Y4 h H) e
 refine ⟨e',?_⟩
 cases q:H b with
 | none=>rfl
 | some x=>
  have hm:b∈Y4 h H:=List.mem_filter.mpr ⟨List.mem_range.mpr (Heap.lt_size e'),by simp [q]⟩
  have z:(z7 h H).get? b=none:=PySem.W.hideAll_none (Y4 h H) hm
  rw [z] at e; cases e
def Qt (g h:Heap) (L:Addr):List (Addr×Obj):=(List.range h.objs.size).filterMap fun a=>if a=L∨(g.get? a).isSome=true then none else (h.get? a).map fun o=>(a,o)
def rest (g h:Heap) (L d:Addr):List (Addr×Obj):=(Qt g h L).filter fun p=>decide (p.1≠d)
end L2
namespace L2
open PySem PySem.Spec PyProof.Rows
structure Mod (K:PySem.W.Frag) (mg:Str→Option Value) (base:Heap):Prop where
 Zt:K.In base
 glob:base.Ns mainGlobals mg
 blt:∃mb,base.Ns builtinsNs mb∧∀x:Str,x≠"__name__"→mb x=bootBuiltins x
 nolimit:base.NoLimit
structure Cx where
 prog:Program
 w:World
 K:PySem.W.Frag
 mg:Str→Option Value
 base:Heap
 A:Around
 N:List Str
 s₀:Shared
 H₀:Hp
 env:Env
 outer:List Env
 stack:List Env
 ex:List Addr
 fn:Str→Bool
 calm:Bool
 pn:List (Addr×Obj)
 xe:Value→Shared→Prop
def frs (l:List Env):List Addr:=l.filterMap (·.frame)
abbrev Cx.fs (X:Cx):List Addr:=frs X.outer
def Zu (sc:Scope) (x:Str):Prop:=sc.names.lookup x=some .local∨sc.names.lookup x=some .cell∨sc.names.lookup x=some .free
def Loc (sc:Scope) (x:Str):Prop:=sc.names.lookup x=some .local∨sc.names.lookup x=some .cell
def Look (env:Env) (h:Heap) (m:Str→Option Value) (x:Str) (u:Value):Prop:=
 (env.kindOf x=some .local∧m x=some u)∨((env.kindOf x=some .cell∨env.kindOf x=some .free)∧∃c,env.cells.lookup x=some c∧h.IsCell c (some u))
structure Cx.Ok (X:Cx):Prop where
 mod:Mod X.K X.mg X.base
 kind:X.env.scope.kind=.function
 glob:X.env.globals=mainGlobals
 blt:X.env.builtins=builtinsNs
 above:X.s₀.heap.objs.size≤X.env.locals
 inj:∀x y c,X.env.cells.lookup x=some c→X.env.cells.lookup y=some c→x=y
 has:∀x,(X.env.kindOf x=some .cell∨X.env.kindOf x=some .free)→∃c,X.env.cells.lookup x=some c
 cab:∀x c,X.fn x=true→X.env.cells.lookup x=some c→X.s₀.heap.objs.size≤c
 hd:X.calm=true→X.A.handled=none
 frames:X.A.frames=some X.stack
 stk:X.stack=X.outer∨(X.stack=X.env::X.outer∧X.env.frame=some X.env.locals)
 exf:∀b∈X.ex,b≠X.env.locals∧∀x c,X.env.cells.lookup x=some c→c≠b
 bs:∀b o,X.base.get? b=some o→X.s₀.heap.get? b=some o∧X.H₀ b=none
 Ql:X.base.objs.size≤X.s₀.heap.objs.size
 Lq:∀b o,X.base.get? b=some o→b∉X.ex
 Qu:∀b∈X.ex,b∉X.fs
 uV:X.s₀.heap.FunFrames X.base X.outer
 Uw:∀b∈X.fs,X.H₀ b=none
structure Inv (X:Cx) (pins:List (Addr×Obj)) (σ:List (Option V)) (H:Hp) (s:Shared):Prop where
 ok:X.Ok
 os:s.os=X.s₀.os
 bare:AllBare s.gens
 base:Un X.fs X.ex X.H₀ H X.s₀.heap s.heap
 loc:∃m,s.heap.Ns X.env.locals m∧∀(i:Nat) (x:Str) (v:V),X.N[i]?=some x→σ[i]?=some (some v)→Zu X.env.scope x→∃u,RelV v u∧Look X.env s.heap m x u
 cell:∀x c,X.env.cells.lookup x=some c→∃v,s.heap.IsCell c v
 free:H X.env.locals=none
 oW:∀x c,X.env.cells.lookup x=some c→H c=none
 pin:∀p∈X.pn++pins,s.heap.get? p.1=some p.2∧H p.1=none∧p.1≠X.env.locals∧p.1∉X.fs∧∀v,p.2.data≠.cell v
 hok:rm X.prog X.w H s.heap
 len:σ.length=X.N.length
section
variable {X:Cx} {pins:List (Addr×Obj)} {σ:List (Option V)} {H H':Hp} {s:Shared} {h':Heap}
theorem Cx.Ok.Zv (ok:X.Ok) {b:Addr} {o:Obj} (e:X.base.get? b=some o):b∉X.fs:=fun hb=>by
 have:=(ok.uV.mem hb).1
 rw [e] at this; cases this
theorem Inv.bs (I:Inv X pins σ H s):∀b o,X.base.get? b=some o→s.heap.get? b=some o∧H b=none:=fun b o e=>
 ⟨I.base.keep b o (I.ok.bs b o e).1 (I.ok.bs b o e).2 (I.ok.Zv e) (I.ok.Lq b o e),I.base.free b o (I.ok.bs b o e).1 (I.ok.bs b o e).2 (I.ok.Lq b o e)⟩
theorem Inv.bk (I:Inv X pins σ H s):∀b o,X.base.get? b=some o→s.heap.get? b=some o:=fun b o e=>(I.bs b o e).1
theorem Inv.mod (I:Inv X pins σ H s):Mod X.K X.mg X.base:=I.ok.mod
theorem Inv.tK (I:Inv X pins σ H s):X.K.In s.heap:=I.ok.mod.Zt.keeps I.bk
theorem Inv.nolimit (I:Inv X pins σ H s):s.heap.NoLimit:=I.ok.mod.nolimit.keeps I.bk
theorem Inv.fr (I:Inv X pins σ H s):∃m,Fr X.base X.env.locals s.heap m:=
 let ⟨m,hn,_⟩:=I.loc
 ⟨m,hn,I.bk,Nat.le_trans I.ok.Ql I.ok.above⟩
theorem Inv.lt (I:Inv X pins σ H s):X.env.locals < s.heap.objs.size:=let ⟨_,hn,_⟩:=I.loc; hn.lt
theorem Inv.sz (I:Inv X pins σ H s):X.s₀.heap.objs.size≤s.heap.objs.size:=Nat.le_trans I.ok.above (Nat.le_of_lt I.lt)
theorem Inv.Zw (I:Inv X pins σ H s) {a:Addr} (h:s.heap.objs.size≤a):a∉X.fs:=fun hb=>by
 obtain ⟨_,o,ho,_⟩:=I.ok.uV.mem hb
 exact absurd (Nat.lt_of_lt_of_le (Heap.lt_size ho) (Nat.le_trans I.sz h)) (Nat.lt_irrefl _)
theorem Inv.Ux (I:Inv X pins σ H s):∀x c,X.env.cells.lookup x=some c→c≠X.env.locals:=fun x c e z=>by
 obtain ⟨v,o,ho,hd⟩:=I.cell x c e
 obtain ⟨m,⟨o',es,ep,ho',hd',_⟩,_⟩:=I.loc
 rw [z,ho'] at ho; cases ho; rw [hd'] at hd; cases hd
theorem Inv.uV (I:Inv X pins σ H s):s.heap.FunFrames X.base X.outer:=by
 have all:∀(l:List Env),(∀b∈frs l,b∈X.fs)→X.s₀.heap.FunFrames X.base l→s.heap.FunFrames X.base l:=by
  intro l
  induction l with
  | nil=>intro _ _; trivial
  | cons env r ih=>
   intro hs hl
   obtain ⟨hk,⟨L,o,hf,hn,ho,hd⟩,hr⟩:=hl
   have hL:L∈X.fs:=hs L (by unfold frs; rw [List.filterMap_cons,hf]; exact List.mem_cons_self)
   obtain ⟨sl,e⟩:=I.base.slot L o ho (I.ok.Uw L hL) hL fun z=>I.ok.Qu L z hL
   exact ⟨hk,⟨L,_,hf,hn,e,hd⟩,ih (fun b hb=>hs b (by unfold frs; rw [List.filterMap_cons,hf]; exact List.mem_cons_of_mem _ hb)) hr⟩
 exact all X.outer (fun _ hb=>hb) I.ok.uV
theorem Inv.stack (I:Inv X pins σ H s):s.heap.FunFrames X.base X.stack:=by
 rcases I.ok.stk with e | ⟨e,hf⟩
 ·rw [e]; exact I.uV
 ·rw [e]
  obtain ⟨m,hn,_⟩:=I.loc
  refine .cons (by rw [I.ok.kind]; decide) hf hn ?_ I.uV
  exact Heap.get?_none_of_le (Nat.le_trans I.ok.Ql I.ok.above)
theorem Inv.vO (I:Inv X pins σ H s):∀b∈frs X.stack,b∈X.env.locals::X.fs:=fun b hb=>by
 rcases I.ok.stk with e | ⟨e,hf⟩
 ·rw [e] at hb; exact List.mem_cons_of_mem _ hb
 ·rw [e] at hb
  unfold frs at hb
  rw [List.filterMap_cons,hf] at hb
  exact hb
theorem Inv.HN (I:Inv X pins σ H s):∀b∈frs X.stack,H b=none:=fun b hb=>by
 rcases List.mem_cons.mp (I.vO b hb) with e | hb
 ·rw [e]; exact I.free
 ·obtain ⟨_,o,ho,_⟩:=I.ok.uV.mem hb
  exact I.base.free b o ho (I.ok.Uw b hb) fun z=>I.ok.Qu b z hb
theorem Inv.step {g':Array GenState} {t':Nat} {d':Drawn} {ch:List Addr} (I:Inv X pins σ H s)
  (hch:∀b∈ch,(b∈X.ex∨X.s₀.heap.objs.size≤b)∧b≠X.env.locals∧(∀x c,X.env.cells.lookup x=some c→c≠b)∧∀p∈X.pn++pins,p.1≠b)
  (keep:∀b o,b≠X.env.locals→b∉X.fs→b∉ch→s.heap.get? b=some o→H b=none→h'.get? b=some o)
  (slot:∀b o,b≠X.env.locals→b∈X.fs→b∉ch→s.heap.get? b=some o→H b=none→∃sl,h'.get? b=some { o with slots:=sl }) (free:∀b o,b∉ch→s.heap.get? b=some o→H b=none→H' b=none)
  (there:∀b o,b∉ch→s.heap.get? b=some o→∃o',h'.get? b=some o')
  (tups:∀b xs,H b=some (.tup xs)→H' b=some (.tup xs)) (tM:∀b o u,H b=some (.Cj o u)→H' b=some (.Cj o u)) (uU:∀b ps,H b=some (.Uu ps)→∃more,H' b=some (.Uu (ps++more)))
  (ns:∀m,s.heap.Ns X.env.locals m→h'.Ns X.env.locals m) (hok:rm X.prog X.w H' h') (hg:AllBare g'):
  Inv X pins σ H' { s with heap:=h',gens:=g',drawn:=d',toks:=t' }:=by
 have neL:∀b o,X.s₀.heap.get? b=some o→b≠X.env.locals:=fun b o e=>Nat.ne_of_lt (Nat.lt_of_lt_of_le (Heap.lt_size e) I.ok.above)
 have Y5:∀b o,X.s₀.heap.get? b=some o→b∉X.ex→b∉ch:=fun b o e hx hb=>by
  rcases (hch b hb).1 with z | z
  ·exact hx z
  ·exact absurd (Nat.lt_of_lt_of_le (Heap.lt_size e) z) (Nat.lt_irrefl _)
 have cellK:∀x c,X.env.cells.lookup x=some c→∀v,s.heap.IsCell c v→h'.IsCell c v:=fun x c e v ⟨o,ho,hd⟩=>by
  have W5:c∉ch:=fun z=>(hch c z).2.2.1 x c e rfl
  by_cases hc:c∈X.fs
  ·obtain ⟨sl,q⟩:=slot c o (I.Ux x c e) hc W5 ho (I.oW x c e)
   exact ⟨_,q,hd⟩
  ·exact ⟨o,keep c o (I.Ux x c e) hc W5 ho (I.oW x c e),hd⟩
 refine ⟨I.ok,I.os,hg,⟨fun b o e n hb hx=>?_,fun b o e n hb hx=>?_,fun b o e n hx=>?_,fun b o e hx=>?_,fun b xs e=>tups b xs (I.base.tups b xs e),fun b o xs e=>tM b o xs (I.base.tM b o xs e),fun b ps e=>?_⟩,?_,fun x c e=>?_,?_,fun x c e=>?_,fun p hp=>?_,hok,I.len⟩
 ·exact keep b o (neL b o e) hb (Y5 b o e hx) (I.base.keep b o e n hb hx) (I.base.free b o e n hx)
 ·obtain ⟨sl,e1⟩:=I.base.slot b o e n hb hx
  obtain ⟨sl',e2⟩:=slot b _ (neL b o e) hb (Y5 b o e hx) e1 (I.base.free b o e n hx)
  exact ⟨sl',e2⟩
 ·obtain ⟨o',e1⟩:=I.base.there b o e hx
  exact free b o' (Y5 b o e hx) e1 (I.base.free b o e n hx)
 ·obtain ⟨o',e1⟩:=I.base.there b o e hx
  exact there b o' (Y5 b o e hx) e1
 ·obtain ⟨m1,e1⟩:=I.base.uU b ps e
  obtain ⟨m2,e2⟩:=uU b _ e1
  exact ⟨m1++m2,by rw [e2,Array.append_assoc]⟩
 ·obtain ⟨m,hn,hl⟩:=I.loc
  refine ⟨m,ns m hn,fun i x v e1 e2 e3=>?_⟩
  obtain ⟨u,r,l⟩:=hl i x v e1 e2 e3
  refine ⟨u,r,?_⟩
  rcases l with l | ⟨k,c,e,z⟩
  ·exact .inl l
  ·exact .inr ⟨k,c,e,cellK x c e _ z⟩
 ·obtain ⟨v,z⟩:=I.cell x c e
  exact ⟨v,cellK x c e v z⟩
 ·obtain ⟨m,⟨o,_,_,ho,_⟩,_⟩:=I.loc
  exact free _ o (fun z=>(hch _ z).2.1 rfl) ho I.free
 ·obtain ⟨v,o,ho,hd⟩:=I.cell x c e
  exact free c o (fun z=>(hch c z).2.2.1 x c e rfl) ho (I.oW x c e)
 ·obtain ⟨e,n,ne,nf,d⟩:=I.pin p hp
  have W5:p.1∉ch:=fun z=>(hch p.1 z).2.2.2 p hp rfl
  exact ⟨keep p.1 p.2 ne nf W5 e n,free p.1 p.2 W5 e n,ne,nf,d⟩
theorem Inv.un {t':Nat} (I:Inv X pins σ H s) (u:Un X.fs [] H H' s.heap h') (hok:rm X.prog X.w H' h'):Inv X pins σ H' { s with heap:=h',toks:=t' }:=by
 obtain ⟨m,⟨o,es,ep,ho,r⟩,_⟩:=id I.loc
 obtain ⟨sl,hL⟩:=u.any ho I.free (by simp)
 exact I.step (g':=s.gens) (d':=s.drawn) (ch:=[]) (fun _ z=>nomatch z) (fun b o _ hb _ e n=>u.keep b o e n hb (by simp)) (fun b o _ hb _ e n=>u.slot b o e n hb (by simp)) (fun b o _ e n=>u.free b o e n (by simp)) (fun b o _ e=>u.there b o e (by simp)) u.tups u.tM u.uU (fun m' hm=>by
  obtain ⟨o',es',ep',ho',r'⟩:=hm
  rw [ho] at ho'; cases ho'
  exact ⟨_,es',ep',hL,r'⟩) hok I.bare
theorem Inv.call {g':Array GenState} {t':Nat} {d':Drawn} {ch:List Addr} (I:Inv X pins σ H s) (u:Un (frs X.stack) ch H H' s.heap h') (hok:rm X.prog X.w H' h') (hg:AllBare g')
  (hch:∀b∈ch,(b∈X.ex∨X.s₀.heap.objs.size≤b)∧b≠X.env.locals∧(∀x c,X.env.cells.lookup x=some c→c≠b)∧∀p∈X.pn++pins,p.1≠b):
  Inv X pins σ H' { s with heap:=h',gens:=g',drawn:=d',toks:=t' }:=by
 obtain ⟨m,⟨o,es,ep,ho,r⟩,_⟩:=id I.loc
 obtain ⟨sl,hL⟩:=u.any ho I.free fun z=>(hch _ z).2.1 rfl
 exact I.step (ch:=ch) hch (fun b o hL hb hc e n=>u.keep b o e n (fun z=>(List.mem_cons.mp (I.vO b z)).elim hL hb) hc) (fun b o _ _ hc e n=>u.any e n hc) (fun b o hc e n=>u.free b o e n hc) (fun b o hc e=>u.there b o e hc) u.tups u.tM u.uU (fun m' hm=>by
  obtain ⟨o',es',ep',ho',r'⟩:=hm
  rw [ho] at ho'; cases ho'
  exact ⟨_,es',ep',hL,r'⟩) hok hg
theorem Inv.turned {t':Nat} {it:Addr} (I:Inv X pins σ H s) (k:∀b o,b≠it→s.heap.get? b=some o→h'.get? b=some o) (hn:H it=none) (hL:it≠X.env.locals)
  (h1:it∈X.ex∨X.s₀.heap.objs.size≤it) (h2:∀x c,X.env.cells.lookup x=some c→c≠it) (h3:∀p∈X.pn++pins,p.1≠it):Inv X pins σ H { s with heap:=h',toks:=t' }:=by
 have W6:∀b u,H b=some u→b≠it:=fun b u e z=>by rw [z,hn] at e; cases e
 refine I.step (g':=s.gens) (d':=s.drawn) (ch:=[it]) (fun b hb=>?_) (fun b o _ _ hc e _=>k b o (fun z=>hc (by simp [z])) e) (fun b o _ _ hc e _=>⟨o.slots,k b o (fun z=>hc (by simp [z])) e⟩) (fun _ _ _ _ n=>n)
  (fun b o hc e=>⟨o,k b o (fun z=>hc (by simp [z])) e⟩) (fun _ _ e=>e) (fun _ _ _ e=>e) (fun b ps e=>⟨#[],by rw [e]; simp⟩) (fun m hm=>?_) (fun b u e=>?_) I.bare
 ·have e:b=it:=by simpa using hb
  subst e
  exact ⟨h1,hL,h2,h3⟩
 ·obtain ⟨o,es,ep,ho,r⟩:=hm
  exact ⟨o,es,ep,k _ o (Ne.symm hL) ho,r⟩
 ·refine (I.hok b u e).stay (fun c v hc q=>k c v ?_ q) (fun _ q=>q) fun _ _ q=>q
  rcases hc with z | z
  ·rw [z]; exact W6 b u e
  ·exact W6 c _ z
theorem Inv.tok (I:Inv X pins σ H s) (t:Nat):Inv X pins σ H { s with toks:=t }:=I.un (h':=s.heap) (t':=t) Un.refl I.hok
theorem Inv.kept {t':Nat} (I:Inv X pins σ H s) (k:∀b u,s.heap.get? b=some u→h'.get? b=some u):Inv X pins σ H { s with heap:=h',toks:=t' }:=I.un (Un.kept k) (I.hok.kept k)
theorem Inv.laid {a:Addr} {o:HO} {t':Nat} (I:Inv X pins σ H s) (k:∀b u,s.heap.get? b=some u→h'.get? b=some u) (hp:s.heap.objs.size≤a) (new:cF X.prog X.w (upd H a o) h' a o):
  Inv X pins σ (upd H a o) { s with heap:=h',toks:=t' }:=I.un (Un.laid k hp (I.hok.fresh hp)) (I.hok.laid k hp new)
theorem Inv.write {x e:Addr} {o:HO} {t':Nat} (I:Inv X pins σ H s) (mu:W3 (H x)) (he:e=x∨H e=some (.own x)) (k:∀b u,b≠e→s.heap.get? b=some u→h'.get? b=some u) (heo:∃u,h'.get? e=some u)
  (new:cF X.prog X.w (upd H x o) h' x o):Inv X pins σ (upd H x o) { s with heap:=h',toks:=t' }:=I.un (Un.write mu he k heo) (I.hok.write mu he k heo new)
theorem Inv.weak {σ':List (Option V)} (I:Inv X pins σ H s) (hl:σ'.length=σ.length) (w:∀(i:Nat) v,σ'[i]?=some (some v)→σ[i]?=some (some v)):Inv X pins σ' H s:=
 ⟨I.ok,I.os,I.bare,I.base,let ⟨m,hn,hl'⟩:=I.loc; ⟨m,hn,fun i x v e1 e2 e3=>hl' i x v e1 (w i v e2) e3⟩,I.cell,I.free,I.oW,I.pin,I.hok,hl.trans I.len⟩
theorem Inv.HQ {HR:List (Addr×Obj)} (I:Inv X pins σ H s) (h:∀p∈HR,s.heap.get? p.1=some p.2∧H p.1=none∧p.1≠X.env.locals∧p.1∉X.fs∧∀v,p.2.data≠.cell v):Inv X HR σ H s:=
 ⟨I.ok,I.os,I.bare,I.base,I.loc,I.cell,I.free,I.oW,fun p hp=>(List.mem_append.mp hp).elim (fun z=>I.pin p (List.mem_append_left _ z)) (h p),I.hok,I.len⟩
theorem Cq {N:List Str} (hN:N.Nodup) {i j:Nat} {x:Str} (a:N[i]?=some x) (b:N[j]?=some x):i=j:=by
 obtain ⟨h1,e1⟩:=List.getElem?_eq_some_iff.mp a
 obtain ⟨h2,e2⟩:=List.getElem?_eq_some_iff.mp b
 exact (List.getElem_inj hN).mp (e1.trans e2.symm)
theorem tO {M:Model} {A:Around} {E:Value→Shared→Prop} {i:Nat} {x:Str} {v:V} {u:Value} {Q:Unit→Shared→Prop} (I:Inv X pins σ H s) (hN:X.N.Nodup) (hi:X.N[i]?=some x) (hx:Loc X.env.scope x) (r:RelV v u)
  (h:∀s',Inv X pins (σ.set i (some v)) H s'→(∃a,Heap.SameBut a s.heap s'.heap∧(a=X.env.locals∨X.env.cells.lookup x=some a))→Q () s') (hf:X.fn x=true∨X.env.scope.names.lookup x=some .local:=by first | exact .inl rfl | exact .inr rfl | assumption):wpAny M A (storeName X.env x u) Q E s:=by
 obtain ⟨m,hn,hl⟩:=id I.loc
 have hcls:(X.env.scope.kind==.class || (X.env.scope.kind==.module&&X.env.locals != X.env.globals))=false:=by rw [I.ok.kind]; rfl
 have hiσ:i < σ.length:=by rw [I.len]; exact (List.getElem?_eq_some_iff.mp hi).1
 have Ux:=I.Ux
 have tracked:∀{a:Addr} {h':Heap},(∃o,s.heap.get? a=some o∧H a=none)→Heap.SameBut a s.heap h'→rm X.prog X.w H h':=fun {a h'} ha hs b ob e=>by
  obtain ⟨_,_,hfree⟩:=ha
  refine (I.hok b ob e).stay (fun c w' hc q=>(hs.2 c ?_).trans q) (fun _ q=>q) fun _ _ q=>q
  rintro rfl
  rcases hc with rfl | hc
  ·rw [hfree] at e; cases e
  ·rw [hfree] at hc; cases hc
 rcases hx with hk | hk
 ·refine wpAny_storeName_local hk hn (fun h' hn' hs=>?_) hcls
  obtain ⟨oL,_,_,hoL,_⟩:=id hn
  refine h _ ⟨I.ok,I.os,I.bare,⟨fun b o e n hb hx=>?_,fun b o e n hb hx=>?_,I.base.free,fun b o e hx=>?_,I.base.tups,I.base.tM,I.base.uU⟩,⟨_,hn',fun j y v' e1 e2 e3=>?_⟩,fun y c e=>?_,I.free,I.oW,fun p hp=>?_,tracked ⟨oL,hoL,I.free⟩ hs,by simpa using I.len⟩ ⟨_,hs,.inl rfl⟩
  ·exact (hs.2 b (Nat.ne_of_lt (Nat.lt_of_lt_of_le (Heap.lt_size e) I.ok.above))).trans (I.base.keep b o e n hb hx)
  ·obtain ⟨sl,e1⟩:=I.base.slot b o e n hb hx
   exact ⟨sl,(hs.2 b (Nat.ne_of_lt (Nat.lt_of_lt_of_le (Heap.lt_size e) I.ok.above))).trans e1⟩
  ·obtain ⟨o',e1⟩:=I.base.there b o e hx
   exact ⟨o',(hs.2 b (Nat.ne_of_lt (Nat.lt_of_lt_of_le (Heap.lt_size e) I.ok.above))).trans e1⟩
  ·by_cases hj:j=i
   ·subst hj
    rw [hi] at e1; cases e1
    rw [List.getElem?_set_self hiσ] at e2
    cases e2
    exact ⟨u,r,.inl ⟨hk,by simp⟩⟩
   ·rw [List.getElem?_set_ne (Ne.symm hj)] at e2
    obtain ⟨u',r',q⟩:=hl j y v' e1 e2 e3
    refine ⟨u',r',?_⟩
    rcases q with ⟨k,e⟩ | ⟨k,c,e,z⟩
    ·refine .inl ⟨k,?_⟩
     have:y≠x:=fun e=>hj (Cq hN e1 (e ▸ hi))
     simp [this,e]
    ·exact .inr ⟨k,c,e,z.sameBut hs (Ux y c e)⟩
  ·obtain ⟨w',z⟩:=I.cell y c e
   exact ⟨w',z.sameBut hs (Ux y c e)⟩
  ·obtain ⟨e,n,ne,nf,d⟩:=I.pin p hp
   exact ⟨(hs.2 p.1 ne).trans e,n,ne,nf,d⟩
 ·have hfn:X.fn x=true:=by
   rcases hf with z | z
   ·exact z
   ·rw [z] at hk; cases hk
  obtain ⟨c,hc⟩:=I.ok.has x (.inl hk)
  obtain ⟨w',z⟩:=I.cell x c hc
  refine wpAny_storeName_cell I.ok.kind hk hc z (fun h' hc' hs=>?_)
  obtain ⟨oc,hoc,Zx⟩:=id z
  refine h { s with heap:=h' } ⟨I.ok,I.os,I.bare,⟨fun b o e n hb hx=>?_,fun b o e n hb hx=>?_,I.base.free,fun b o e hx=>?_,I.base.tups,I.base.tM,I.base.uU⟩,⟨m,hn.sameBut hs (Ne.symm (Ux x c hc)),fun j y v' e1 e2 e3=>?_⟩,fun y c' e=>?_,I.free,I.oW,fun p hp=>?_,tracked ⟨oc,hoc,I.oW x c hc⟩ hs,by simpa using I.len⟩ ⟨c,hs,.inr hc⟩
  ·exact (hs.2 b (Nat.ne_of_lt (Nat.lt_of_lt_of_le (Heap.lt_size e) (I.ok.cab x c hfn hc)))).trans (I.base.keep b o e n hb hx)
  ·obtain ⟨sl,e1⟩:=I.base.slot b o e n hb hx
   exact ⟨sl,(hs.2 b (Nat.ne_of_lt (Nat.lt_of_lt_of_le (Heap.lt_size e) (I.ok.cab x c hfn hc)))).trans e1⟩
  ·obtain ⟨o',e1⟩:=I.base.there b o e hx
   exact ⟨o',(hs.2 b (Nat.ne_of_lt (Nat.lt_of_lt_of_le (Heap.lt_size e) (I.ok.cab x c hfn hc)))).trans e1⟩
  ·by_cases hj:j=i
   ·subst hj
    rw [hi] at e1; cases e1
    rw [List.getElem?_set_self hiσ] at e2
    cases e2
    exact ⟨u,r,.inr ⟨.inl hk,c,hc,hc'⟩⟩
   ·rw [List.getElem?_set_ne (Ne.symm hj)] at e2
    obtain ⟨u',r',q⟩:=hl j y v' e1 e2 e3
    refine ⟨u',r',?_⟩
    rcases q with q | ⟨k,c',e,z'⟩
    ·exact .inl q
    ·refine .inr ⟨k,c',e,z'.sameBut hs ?_⟩
     rintro rfl
     exact hj (Cq hN e1 (I.ok.inj _ _ _ e hc ▸ hi))
  ·by_cases hcc:c'=c
   ·subst hcc; exact ⟨_,hc'⟩
   ·obtain ⟨w2,z2⟩:=I.cell y c' e
    exact ⟨w2,z2.sameBut hs hcc⟩
  ·obtain ⟨e,n,ne,nf,d⟩:=I.pin p hp
   refine ⟨(hs.2 p.1 ?_).trans e,n,ne,nf,d⟩
   intro q
   rw [q,hoc] at e
   have q':oc=p.2:=Option.some.inj e
   exact d w' (by rw [←q']; exact Zx)
theorem mJ {M:Model} {A:Around} {E:Value→Shared→Prop} {i:Nat} {x:Str} {v:V} {u:Value} {Q:Unit→Shared→Prop} (I:Inv X pins σ H s) (hN:X.N.Nodup) (hi:X.N[i]?=some x) (hx:Loc X.env.scope x) (r:RelV v u)
  (h:∀s',Inv X pins (σ.set i (some v)) H s'→Q () s') (hf:X.fn x=true∨X.env.scope.names.lookup x=some .local:=by first | exact .inl rfl | exact .inr rfl | assumption):wpAny M A (storeName X.env x u) Q E s:=
 tO I hN hi hx r (fun s' I' _=>h s' I') hf
theorem Inv.call' {s':Shared} {ch:List Addr} (I:Inv X pins σ H s) (ho:s'.os=s.os) (u:Un (frs X.stack) ch H H' s.heap s'.heap) (hok:rm X.prog X.w H' s'.heap) (hg:AllBare s'.gens)
  (hch:∀b∈ch,(b∈X.ex∨X.s₀.heap.objs.size≤b)∧b≠X.env.locals∧(∀x c,X.env.cells.lookup x=some c→c≠b)∧∀p∈X.pn++pins,p.1≠b):Inv X pins σ H' s':=by
 obtain ⟨h',g',d',t',o'⟩:=s'
 have e:o'=s.os:=ho
 subst e
 exact I.call (g':=g') (t':=t') (d':=d') u hok hg hch
end
abbrev XK:=Value→Option Addr→Hp→Prop
abbrev St:=List (Option V)
abbrev VK:=V→Hp→Prop
abbrev TE:=St→Hp→VK→Prop
abbrev TT:=St→Hp→(Bool→Hp→Prop)→Prop
abbrev TA:=St→Hp→(List V→Hp→Prop)→Prop
structure Ends where
 nx:St→Hp→Prop
 rt:VK
 bk:St→Hp→Prop:=fun _ _=>False
 ct:St→Hp→Prop:=fun _ _=>False
abbrev TS:=Ends→St→Hp→Prop
def EP (X:Cx) (pins:List (Addr×Obj)) (σ:St) (Q:VK) (u:Value) (s':Shared):Prop:=∃v H',Inv X pins σ H' s'∧RelV v u∧Q v H'
def TP (X:Cx) (pins:List (Addr×Obj)) (σ:St) (Q:Bool→Hp→Prop) (b:Bool) (s':Shared):Prop:=∃H',Inv X pins σ H' s'∧Q b H'
def AP (X:Cx) (pins:List (Addr×Obj)) (σ:St) (Q:List V→Hp→Prop) (us:List Value) (s':Shared):Prop:=∃vs H',Inv X pins σ H' s'∧Vals vs us∧Q vs H'
def SP (X:Cx) (pins:List (Addr×Obj)) (D:Ends) (f:Flow) (s':Shared):Prop:=
 match f with
 | .next=>∃σ' H',Inv X pins σ' H' s'∧D.nx σ' H'
 | .brk=>∃σ' H',Inv X pins σ' H' s'∧D.bk σ' H'
 | .cont=>∃σ' H',Inv X pins σ' H' s'∧D.ct σ' H'
 | .ret u=>∃v σ' H',Inv X pins σ' H' s'∧RelV v u∧D.rt v H'
def PE (X:Cx) (e:Expr) (t:TE):Prop:=
 ∀(pins:List (Addr×Obj)) (s:Shared) (σ:St) (H:Hp) (Q:VK),Inv X pins σ H s→t σ H Q→wpAny (model X.prog X.w) X.A (eval e X.env) (EP X pins σ Q) X.xe s
def PT (X:Cx) (e:Expr) (t:TT):Prop:=
 ∀(pins:List (Addr×Obj)) (s:Shared) (σ:St) (H:Hp) (Q:Bool→Hp→Prop),Inv X pins σ H s→t σ H Q→wpAny (model X.prog X.w) X.A (isTrue e X.env (eval e X.env)) (TP X pins σ Q) X.xe s
def PW (X:Cx) (e:Expr) (t:TT):Prop:=
 ∀(whole:Sem Value) (pins:List (Addr×Obj)) (s:Shared) (σ:St) (H:Hp) (Q:Bool→Hp→Prop),Inv X pins σ H s→t σ H Q→wpAny (model X.prog X.w) X.A (isTrue e X.env whole) (TP X pins σ Q) X.xe s
theorem PW.pt {X:Cx} {e:Expr} {t:TT} (h:PW X e t):PT X e t:=h _
def PA (X:Cx) (es:List Expr) (t:TA):Prop:=
 ∀(pos:Pos) (pins:List (Addr×Obj)) (s:Shared) (σ:St) (H:Hp) (Q:List V→Hp→Prop),Inv X pins σ H s→t σ H Q→wpAny (model X.prog X.w) X.A (spliced (backTo pos (starEach es X.env))) (AP X pins σ Q) X.xe s
def PS (X:Cx) (st:Stmt) (t:TS):Prop:=
 ∀(pins:List (Addr×Obj)) (s:Shared) (σ:St) (H:Hp) (D:Ends),Inv X pins σ H s→t D σ H→wpAny (model X.prog X.w) X.A (exec st X.env) (SP X pins D) X.xe s
def uW (X:Cx) (st:List Stmt) (t:TS):Prop:=
 ∀(pins:List (Addr×Obj)) (s:Shared) (σ:St) (H:Hp) (D:Ends),Inv X pins σ H s→t D σ H→wpAny (model X.prog X.w) X.A (execs st X.env) (SP X pins D) X.xe s
theorem eZ {α:Type} {t:Sem α} {Q Q':α→Shared→Prop} {M:Model} {A:Around} {E:Value→Shared→Prop} {s:Shared} (h:wpAny M A t Q E s) (hQ:∀a s,Q a s→Q' a s):wpAny M A t Q' E s:=wpAny_mono h hQ fun _ _ x=>x
end L2
namespace L2
open PySem PySem.Spec PyProof.Rows
section
variable {X:Cx}
def yH (i:Nat):TE:=fun σ H Q=>∃v,σ[i]?=some (some v)∧Q v H
def tC (v:V):TE:=fun _ H Q=>Q v H
theorem Uy {i:Nat} {x:Str} {pos:Pos} (hN:X.N[i]?=some x) (hv:Zu X.env.scope x) (hd:(x==("__debug__":Str))=false:=by decide) (hcd:(x==("__classdict__":Str))=false:=by decide):PE X (.Name x pos) (yH i):=by
 intro pins s σ H Q I h
 obtain ⟨v,e,h⟩:=h
 obtain ⟨m,hn,hl⟩:=I.loc
 obtain ⟨u,r,l⟩:=hl i x v hN e hv
 have fin:EP X pins σ Q u s:=⟨v,H,I,r,h⟩
 rcases l with ⟨hk,hm⟩ | ⟨hk,c,hc,hcell⟩
 ·exact wpAny_Name (wpAny_loadName_local I.ok.kind hk hn hm fin) hd
 ·rcases hk with hk | hk
  ·exact wpAny_Name (wpAny_loadName_cell I.ok.kind hk hc hcell fin) hd
  ·exact wpAny_Name (wpAny_loadName_free I.ok.kind hk hc hcell fin hcd) hd
theorem aD {i j pos}:PE X (.Constant (.int i) j pos) (tC (.int i)):=fun _ _ _ H _ I h=>wpAny_Constant_int ⟨.int i,H,I.tok _,⟨_,rfl⟩,h⟩
theorem Cr {b j pos}:PE X (.Constant (.bool b) j pos) (tC (.bl b)):=fun _ _ _ H _ I h=>Constant_bool ⟨.bl b,H,I,rfl,h⟩
theorem Lr {j pos}:PE X (.Constant .none j pos) (tC .non):=fun _ _ _ H _ I h=>Constant_none ⟨.non,H,I,rfl,h⟩
theorem oX {x j pos}:PE X (.Constant (.str x) j pos) (tC (.str x)):=fun _ _ _ H _ I h=>Calls.Constant_str ⟨.str x,H,I.tok _,⟨_,rfl⟩,h⟩
def Gl (X:Cx) (x:Str):Prop:=X.env.kindOf x=some .globalImplicit
theorem Qv {E:Value→Shared→Prop} {pins:List (Addr×Obj)} {s:Shared} {σ:St} {H:Hp} {x:Str} {u:Value} {pos:Pos} {Q:Value→Shared→Prop} (I:Inv X pins σ H s) (hg:Gl X x) (hm:X.mg x=some u) (h:Q u s)
  (hd:(x==("__debug__":Str))=false:=by decide):wpAny (model X.prog X.w) X.A (eval (.Name x pos) X.env) Q E s:=
 Calls.Name_function_global I.ok.kind hg (Calls.loadGlobal_global (by rw [I.ok.glob]; exact I.mod.glob.keeps I.bk) hm h) hd
theorem nC {E:Value→Shared→Prop} {pins:List (Addr×Obj)} {s:Shared} {σ:St} {H:Hp} {x:Str} {u:Value} {pos:Pos} {Q:Value→Shared→Prop} (I:Inv X pins σ H s) (hg:Gl X x) (hm:X.mg x=none) (hv:bootBuiltins x=some u) (h:Q u s)
  (hn:x≠"__name__":=by decide) (hd:(x==("__debug__":Str))=false:=by decide):wpAny (model X.prog X.w) X.A (eval (.Name x pos) X.env) Q E s:=by
 obtain ⟨mb,h1,h2⟩:=I.mod.blt
 exact Calls.Name_function_global I.ok.kind hg (Calls.loadGlobal_builtin (by rw [I.ok.glob]; exact I.mod.glob.keeps I.bk) hm (by rw [I.ok.blt]; exact h1.keeps I.bk) ((h2 x hn).trans hv) h) hd
theorem gQ {x:Str} {v:V} {u:Value} {pos:Pos} (hg:Gl X x) (hm:X.mg x=none) (hv:bootBuiltins x=some u) (r:RelV v u) (hn:x≠"__name__":=by decide) (hd:(x==("__debug__":Str))=false:=by decide):PE X (.Name x pos) (tC v):=
 fun _ _ _ H _ I h=>nC I hg hm hv ⟨v,H,I,r,h⟩ hn hd
variable {a b:Expr} {ta tb:TE} {pos:Pos}
variable {tA Y6:TT} {rest:List Expr}
def W7 (t u:TT):TT:=fun σ H Q=>t σ H fun c H1=>if c=true then u σ H1 Q else Q false H1
def tOr (t u:TT):TT:=fun σ H Q=>t σ H fun c H1=>if c=true then Q true H1 else u σ H1 Q
def Zy (t:TT):TT:=fun σ H Q=>t σ H fun c H1=>Q (!c) H1
theorem Qw (ha:PT X a tA):PW X (.BoolOp .And [a] pos) tA:=by
 intro wh pins s σ H Q I h
 refine isTrue_and (eZ (ha pins s σ H Q I h) fun c s1 e=>?_)
 cases c with
 | true=>exact isTrue_and_nil e
 | false=>exact e
theorem Uz (ha:PT X a tA):PW X (.BoolOp .Or [a] pos) tA:=by
 intro wh pins s σ H Q I h
 refine isTrue_or (eZ (ha pins s σ H Q I h) fun c s1 e=>?_)
 cases c with
 | false=>exact isTrue_or_nil e
 | true=>exact e
theorem UG (ha:PT X a tA) (hb:PW X (.BoolOp .And (b::rest) pos) Y6):PW X (.BoolOp .And (a::b::rest) pos) (W7 tA Y6):=by
 intro wh pins s σ H Q I h
 refine isTrue_and (eZ (ha pins s σ H _ I h) fun c s1 ⟨H1,I1,q1⟩=>?_)
 cases c with
 | true=>exact hb wh pins s1 σ H1 Q I1 q1
 | false=>exact ⟨H1,I1,q1⟩
theorem W8 (ha:PT X a tA) (hb:PW X (.BoolOp .Or (b::rest) pos) Y6):PW X (.BoolOp .Or (a::b::rest) pos) (tOr tA Y6):=by
 intro wh pins s σ H Q I h
 refine isTrue_or (eZ (ha pins s σ H _ I h) fun c s1 ⟨H1,I1,q1⟩=>?_)
 cases c with
 | true=>exact ⟨H1,I1,q1⟩
 | false=>exact hb wh pins s1 σ H1 Q I1 q1
theorem UJ (ha:PT X a tA):PT X (.UnaryOp .Not a pos) (Zy tA):=by
 intro pins s σ H Q I h
 exact isTrue_not (ha pins s σ H (fun c H1=>Q (!c) H1) I h)
def W9 (ta tb:TE):TE:=fun σ H Q=>ta σ H fun x H1=>∃c,x=.bl c∧if c=true then tb σ H1 Q else Q (.bl false) H1
def Xa (ta:TE):TE:=fun σ H Q=>ta σ H fun x H1=>∃c,x=.bl c∧Q (.bl (!c)) H1
theorem UL {op} {t:TE} (h:PE X a t):PE X (.BoolOp op [a] pos) t:=fun pins s σ H Q I hw=>BoolOp_one (h pins s σ H Q I hw)
theorem UT (ha:PE X a ta) (hb:PE X (.BoolOp .And (b::rest) pos) tb):PE X (.BoolOp .And (a::b::rest) pos) (W9 ta tb):=by
 intro pins s σ H Q I h
 refine BoolOp_and (eZ (ha pins s σ H _ I h) fun v s1 ⟨x,H1,I1,r1,q1⟩=>?_)
 obtain ⟨c,rfl,q1⟩:=q1
 cases r1
 refine wpAny_truthy_bool ?_
 cases c with
 | true=>exact hb pins s1 σ H1 Q I1 q1
 | false=>exact ⟨.bl false,H1,I1,rfl,q1⟩
theorem UW (ha:PE X a ta):PE X (.UnaryOp .Not a pos) (Xa ta):=by
 intro pins s σ H Q I h
 refine UnaryOp_ (eZ (ha pins s σ H _ I h) fun v s1 ⟨x,H1,I1,r1,q1⟩=>?_)
 obtain ⟨c,rfl,q1⟩:=q1
 cases r1
 exact not_of (wpAny_truthy_bool ⟨.bl (!c),H1,I1,rfl,q1⟩)
def tIf (t:TT) (ta tb:TE):TE:=fun σ H Q=>t σ H fun c H1=>if c=true then ta σ H1 Q else tb σ H1 Q
theorem Ls {c:Expr} (hc:PT X c tA) (ha:PE X a ta) (hb:PE X b tb):PE X (.IfExp c a b pos) (tIf tA ta tb):=by
 intro pins s σ H Q I h
 refine wpAny_IfExp (eZ (hc pins s σ H _ I h) fun d s1 ⟨H1,I1,q1⟩=>?_)
 cases d with
 | true=>exact ha pins s1 σ H1 Q I1 q1
 | false=>exact hb pins s1 σ H1 Q I1 q1
end
end L2
namespace L2
open PySem PySem.Spec PyProof.Rows
def dW (K:PySem.W.Frag) (H:Hp) (a:Addr) (xs:List V):Prop:=
 Rd H a (.lst xs)∨
  ∃(o:Obj) (its:Array Value) (n:Nat),K.lookup a=some o∧o.cls=.type "list"∧o.dict=none∧o.data=.seq its n∧its.size≤sizeLine∧Vals xs its.toList
def jz (K:PySem.W.Frag) (H:Hp) (a:Addr) (xs:List V):Prop:=
 Rd H a (.tup xs)∨
  ∃(o:Obj) (its:Array Value) (n:Nat),K.lookup a=some o∧o.cls=.type "tuple"∧o.data=.seq its n∧its.size≤sizeLine∧Vals xs its.toList
def Zz:Value→Option V
 | .none=>some .non
 | .bool b=>some (.bl b)
 | .int i _=>some (.int i)
 | .str x _=>some (.str x)
 | .bytes b _=>some (.JR b)
 | .float b _=>some (.flt b)
 | .ref a=>some (.ref a)
 | .type n=>some (.ty n)
 | _=>none
theorem RelV.abs {x:V} {u:Value} (r:RelV x u):Zz u=some x:=by
 cases x with
 | non=>cases r; rfl
 | bl _=>cases r; rfl
 | int _=>obtain ⟨t,rfl⟩:=r; rfl
 | str _=>obtain ⟨t,rfl⟩:=r; rfl
 | JR _=>obtain ⟨t,rfl⟩:=r; rfl
 | flt _=>obtain ⟨t,rfl⟩:=r; rfl
 | ref _=>cases r; rfl
 | ty _=>cases r; rfl
theorem RelV.inj {x y:V} {u:Value} (r:RelV x u) (q:RelV y u):x=y:=Option.some.inj (r.abs.symm.trans q.abs)
theorem Vals.inj:∀{xs ys:List V} {us:List Value},Vals xs us→Vals ys us→xs=ys
 | _,_,_,.nil,.nil=>rfl
 | _,_,_,.cons r t,.cons r' t'=>by rw [r.inj r',Vals.inj t t']
section
variable {X:Cx} {pins:List (Addr×Obj)} {σ:St} {H:Hp} {s:Shared} {a:Addr} {xs ys:List V}
theorem dW.of {K:PySem.W.Frag} (h:H a=some (.lst xs)):dW K H a xs:=.inl (.inl h)
theorem jz.of {K:PySem.W.Frag} (h:H a=some (.tup xs)):jz K H a xs:=.inl (.inl h)
theorem Inv.list (I:Inv X pins σ H s) (h:dW X.K H a xs):∃its:List Value,Vals xs its∧PlainL s.heap a its.toArray∧xs.length≤sizeLine:=by
 rcases h with h | ⟨o,its,n,hk,hc,hd,hs,hz,r⟩
 ·obtain ⟨z,its,n,r,e⟩:=h.ok I.hok
  exact ⟨its,r,⟨_,n,e,rfl,rfl,rfl⟩,z⟩
 ·refine ⟨its.toList,r,⟨o,n,I.tK a o hk,hc,hd,by simpa using hs⟩,?_⟩
  have e:=r.length
  simp only [Array.length_toList] at e
  omega
theorem Inv.tuple (I:Inv X pins σ H s) (h:jz X.K H a xs):∃its:List Value,Vals xs its∧IsTup s.heap a its.toArray∧xs.length≤sizeLine:=by
 rcases h with h | ⟨o,its,n,hk,hc,hs,hz,r⟩
 ·obtain ⟨z,its,r,p⟩:=h.ok I.hok
  exact ⟨its,r,p,z⟩
 ·refine ⟨its.toList,r,⟨o,I.tK a o hk,hc,n,by simpa using hs⟩,?_⟩
  have e:=r.length
  simp only [Array.length_toList] at e
  omega
theorem Inv.vP (I:Inv X pins σ H s) (h:dW X.K H a xs) (h':dW X.K H a ys):xs=ys:=by
 obtain ⟨its,r,⟨o,n,e,_,_,d⟩,_⟩:=I.list h
 obtain ⟨its',r',⟨o',n',e',_,_,d'⟩,_⟩:=I.list h'
 rw [e] at e'; cases e'
 rw [d] at d'
 injection d' with d1 _
 have:its=its':=by simpa using congrArg Array.toList d1
 subst this
 exact r.inj r'
theorem Inv.JT (I:Inv X pins σ H s) (h:jz X.K H a xs) (h':jz X.K H a ys):xs=ys:=by
 obtain ⟨its,r,⟨o,e,_,n,d⟩,_⟩:=I.tuple h
 obtain ⟨its',r',⟨o',e',_,n',d'⟩,_⟩:=I.tuple h'
 rw [e] at e'; cases e'
 rw [d] at d'
 injection d' with d1 _
 have:its=its':=by simpa using congrArg Array.toList d1
 subst this
 exact r.inj r'
end
abbrev Cx.wish (X:Cx) (E:Value→Shared→Prop):Cx:={ X with xe:=E }
abbrev Cx.Qx (X:Cx):Cx:=X.wish fun _ _=>False
theorem Cx.Ok.wish {X:Cx} (ok:X.Ok) (E:Value→Shared→Prop):(X.wish E).Ok:=
 ⟨ok.mod,ok.kind,ok.glob,ok.blt,ok.above,ok.inj,ok.has,ok.cab,ok.hd,ok.frames,ok.stk,ok.exf,ok.bs,ok.Ql,ok.Lq,ok.Qu,ok.uV,ok.Uw⟩
theorem Cx.Ok.lX {X:Cx} {E:Value→Shared→Prop} (ok:(X.wish E).Ok):X.Ok:=
 ⟨ok.mod,ok.kind,ok.glob,ok.blt,ok.above,ok.inj,ok.has,ok.cab,ok.hd,ok.frames,ok.stk,ok.exf,ok.bs,ok.Ql,ok.Lq,ok.Qu,ok.uV,ok.Uw⟩
section
variable {X:Cx} {pins:List (Addr×Obj)} {σ:St} {H:Hp} {s:Shared} {E:Value→Shared→Prop}
theorem Inv.wish (I:Inv X pins σ H s) (E:Value→Shared→Prop):Inv (X.wish E) pins σ H s:=⟨I.ok.wish E,I.os,I.bare,I.base,I.loc,I.cell,I.free,I.oW,I.pin,I.hok,I.len⟩
theorem Inv.lX (I:Inv (X.wish E) pins σ H s):Inv X pins σ H s:=⟨I.ok.lX,I.os,I.bare,I.base,I.loc,I.cell,I.free,I.oW,I.pin,I.hok,I.len⟩
theorem SP.lX {D:Ends} {f:Flow} {s':Shared} (h:SP (X.wish E) pins D f s'):SP X pins D f s':=by
 cases f with
 | next=>obtain ⟨σ',H',I,q⟩:=h; exact ⟨σ',H',I.lX,q⟩
 | brk=>obtain ⟨σ',H',I,q⟩:=h; exact ⟨σ',H',I.lX,q⟩
 | cont=>obtain ⟨σ',H',I,q⟩:=h; exact ⟨σ',H',I.lX,q⟩
 | ret u=>obtain ⟨v,σ',H',I,r,q⟩:=h; exact ⟨v,σ',H',I.lX,r,q⟩
theorem PE.Qx {e:Expr} {t:TE} (h:PE X.Qx e t):PE X e t:=fun pins s σ H Q I hw=>
 wpAny_mono (h pins s σ H Q (I.wish _) hw) (fun _ _ ⟨v,H',I',r,q⟩=>⟨v,H',I'.lX,r,q⟩) fun _ _ z=>False.elim z
theorem PT.Qx {e:Expr} {t:TT} (h:PT X.Qx e t):PT X e t:=fun pins s σ H Q I hw=>
 wpAny_mono (h pins s σ H Q (I.wish _) hw) (fun _ _ ⟨H',I',q⟩=>⟨H',I'.lX,q⟩) fun _ _ z=>False.elim z
theorem uW.Qx {st:List Stmt} {t:TS} (h:uW X.Qx st t):uW X st t:=fun pins s σ H D I hw=>
 wpAny_mono (h pins s σ H D (I.wish _) hw) (fun _ _ q=>q.lX) fun _ _ z=>False.elim z
end
section
variable {X:Cx} {st:Stmt} {rest:List Stmt} {t u:TS} {e:Expr} {te:TE} {pos:Pos}
def Xb:TS:=fun D σ H=>D.nx σ H
def Xc (t u:TS):TS:=fun D σ H=>t { D with nx:=u D } σ H
theorem Qy:uW X [] Xb:=fun _ _ σ H _ I h=>wpAny_execs_nil ⟨σ,H,I,h⟩
theorem Lw (h1:PS X st t) (h2:uW X rest u):uW X (st::rest) (Xc t u):=by
 intro pins s σ H D I h
 refine wpAny_execs_cons (eZ (h1 pins s σ H { D with nx:=u D } I h) fun f s1 q=>?_)
 cases f with
 | next=>
  obtain ⟨σ',H',I',q⟩:=q
  exact h2 pins s1 σ' H' D I' q
 | ret v=>exact q
 | brk=>exact q
 | cont=>exact q
theorem Qz (h1:PS X st t):uW X [st] t:=by
 intro pins s σ H D I h
 refine wpAny_execs_cons (eZ (h1 pins s σ H D I h) fun f s1 q=>?_)
 cases f with
 | next=>exact wpAny_execs_nil q
 | ret v=>exact q
 | brk=>exact q
 | cont=>exact q
theorem Inv.quiet {pins:List (Addr×Obj)} {σ:St} {H:Hp} {s:Shared} (I:Inv X pins σ H s):interactive X.env=false:=by simp [interactive,I.ok.kind]
def Xd (te:TE):TS:=fun D σ H=>te σ H fun _ H1=>D.nx σ H1
theorem QB (he:PE X e te) (hs:swapsWith e none pos.line X.env=pure false:=by rfl):PS X (.Expr e pos) (Xd te):=by
 intro pins s σ H D I h
 exact wpAny_Expr_any (eZ (he pins s σ H _ I h) fun v s1 ⟨x,H1,I1,r1,q1⟩=>⟨σ,H1,I1,q1⟩) I.quiet hs
def ZC (te:TE):TS:=fun D σ H=>te σ H D.rt
theorem Lx (he:PE X e te):PS X (.Return (some e) pos) (ZC te):=by
 intro pins s σ H D I h
 exact wpAny_Return_some (eZ (he pins s σ H _ I h) fun v s1 ⟨x,H1,I1,r1,q1⟩=>⟨x,σ,H1,I1,r1,q1⟩)
def ZD (c:TT) (t u:TS):TS:=fun D σ H=>c σ H fun b H1=>if b=true then t D σ H1 else u D σ H1
theorem Xe {c:Expr} {a b:List Stmt} {tc:TT} (hc:PT X c tc) (ha:uW X a t) (hb:uW X b u):PS X (.If c a b pos) (ZD tc t u):=by
 intro pins s σ H D I h
 refine wpAny_If (eZ (hc pins s σ H _ I h) fun d s1 ⟨H1,I1,q1⟩=>?_)
 cases d with
 | true=>exact ha pins s1 σ H1 D I1 q1
 | false=>exact hb pins s1 σ H1 D I1 q1
end
abbrev TG:=V→St→Hp→(St→Hp→Prop)→Prop
abbrev Ly:=List V→St→Hp→(St→Hp→Prop)→Prop
def PG (X:Cx) (target:Expr) (t:TG):Prop:=
 ∀(pins:List (Addr×Obj)) (s:Shared) (σ:St) (H:Hp) (v:V) (u:Value) (Q:St→Hp→Prop),Inv X pins σ H s→RelV v u→t v σ H Q→
  wpAny (model X.prog X.w) X.A (assign target X.env u) (fun _ s'=>∃σ' H',Inv X pins σ' H' s'∧Q σ' H') X.xe s
def Y7 (X:Cx) (ts:List Expr) (t:Ly):Prop:=
 ∀(pins:List (Addr×Obj)) (s:Shared) (σ:St) (H:Hp) (vs:List V) (us:List Value) (Q:St→Hp→Prop),Inv X pins σ H s→Vals vs us→t vs σ H Q→
  wpAny (model X.prog X.w) X.A (assignInOrder ((assignEach ts X.env).map (·.2)) us) (fun _ s'=>∃σ' H',Inv X pins σ' H' s'∧Q σ' H') X.xe s
abbrev QC:=V→V→V→Hp→(Hp→Prop)→Prop
def z8 (X:Cx) (t:QC):Prop:=
 ∀(pins:List (Addr×Obj)) (s:Shared) (σ:St) (H:Hp) (o i v:V) (ov iv u:Value) (Q:Hp→Prop),Inv X pins σ H s→RelV o ov→RelV i iv→RelV v u→t o i v H Q→
  wpAny (model X.prog X.w) X.A (setItem ov iv u) (fun _ s'=>∃H',Inv X pins σ H' s'∧Q H') X.xe s
section
variable {X:Cx} {pos:Pos}
def uG (i:Nat):TG:=fun v σ H Q=>Q (σ.set i (some v)) H
theorem cB {i:Nat} {x:Str} (hN:X.N.Nodup) (hi:X.N[i]?=some x) (hx:Loc X.env.scope x) (hf:X.fn x=true∨X.env.scope.names.lookup x=some .local:=by first | exact .inl rfl | exact .inr rfl | assumption):PG X (.Name x pos) (uG i):=by
 intro pins s σ H v u Q I r h
 exact wpAny_assign_Name (mJ I hN hi hx r (fun s' I'=>⟨_,H,I',h⟩) hf)
def U0:Ly:=fun vs σ H Q=>vs=[]∧Q σ H
def Lz (t:TG) (u:Ly):Ly:=fun vs σ H Q=>∃v r,vs=v::r∧t v σ H fun σ' H'=>u r σ' H' Q
theorem rD:Y7 X [] U0:=by
 intro pins s σ H vs us Q I r h
 obtain ⟨e,h⟩:=h
 subst e
 cases r
 exact assignInOrder_nil ⟨σ,H,I,h⟩
theorem fO {e:Expr} {es:List Expr} {t:TG} {u:Ly} (h1:PG X e t) (h2:Y7 X es u)
  (hs:(assignEach (e::es) X.env).map (·.2)=assign e X.env::(assignEach es X.env).map (·.2):=by rfl):Y7 X (e::es) (Lz t u):=by
 intro pins s σ H vs us Q I r h
 obtain ⟨v,vr,e1,h⟩:=h
 subst e1
 cases r with
 | cons r rr=>
  rw [hs]
  refine assignInOrder_cons (eZ (h1 pins s σ H _ _ _ I r h) fun _ s1 ⟨σ1,H1,I1,q1⟩=>?_)
  exact h2 pins s1 σ1 H1 _ _ Q I1 rr q1
def U3 (K:PySem.W.Frag) (n:Nat) (t:Ly):TG:=fun v σ H Q=>∃a xs,v=.ref a∧jz K H a xs∧xs.length=n∧t xs σ H Q
theorem vQ {es:List Expr} {k:Nat} {t:Ly} {n:Nat} (hc:X.calm=true) (h:Y7 X es t)
  (hn:(assignEach es X.env).length=n:=by rfl) (hst:(assignEach es X.env).findIdx? (·.1)=none:=by rfl):PG X (.Tuple es k pos) (U3 X.K n t):=by
 intro pins s σ H v u Q I r hw
 obtain ⟨a,xs,e1,hq,hl,hw⟩:=hw
 subst e1
 cases r
 obtain ⟨its,rv,ht,hz⟩:=I.tuple hq
 refine assign_Tuple_tuple (I.ok.hd hc) ht (by simp [hn,←hl,rv.length]) hst fun h' hx=>?_
 have I1:Inv X pins σ H { s with heap:=h' }:=I.kept (t':=s.toks) fun b o e=>hx b o (Nat.ne_of_lt (Heap.lt_size e)) e
 exact h pins _ σ H xs _ Q I1 (by simpa using rv) hw
def ZF (to ti:TE) (t:QC):TG:=fun v σ H Q=>to σ H fun o H1=>ti σ H1 fun i H2=>t o i v H2 fun H3=>Q σ H3
theorem U4 {o i:Expr} {to ti:TE} {t:QC} (ho:PE X o to) (hi:PE X i ti) (hs:z8 X t)
  (ha:∀v,assign (.Subscript o i pos) X.env v=(do
   let ov ←holding [v] (eval o X.env)
   let iv ←holding [v,ov] (eval i X.env)
   standAt pos
   holding [v,ov,iv] (setItem ov iv v)
   release [v,ov,iv] []):=by intro _; rfl):PG X (.Subscript o i pos) (ZF to ti t):=by
 intro pins s σ H v u Q I r h
 rw [ha]
 refine wpAny_bind (wpAny_holding (eZ (ho pins s σ H _ I h) fun ov s1 ⟨x,H1,I1,r1,q1⟩=>?_))
 refine wpAny_bind (wpAny_holding (eZ (hi pins s1 σ H1 _ I1 q1) fun iv s2 ⟨y,H2,I2,r2,q2⟩=>?_))
 refine wpAny_bind (wpAny_standAt (wpAny_bind (wpAny_holding (eZ (hs pins s2 σ H2 x y v ov iv u _ I2 r1 r2 r q2) fun _ s3 ⟨H3,I3,q3⟩=>?_))))
 exact wpAny_release ⟨σ,H3,I3,q3⟩
def JV (te:TE) (g:TG):TS:=fun D σ H=>te σ H fun x H1=>g x σ H1 D.nx
theorem Fi {tg e:Expr} {te:TE} {g:TG} (he:PE X e te) (hg:PG X tg g) (hs:swapsWithSole [tg] e pos.line X.env=pure false:=by rfl) (hw:swappedStores [tg] e X.env=pure none:=by rfl)
  (h1:(assignEach [tg] X.env).map (·.2)=[assign tg X.env]:=by rfl):PS X (.Assign [tg] e pos) (JV te g):=by
 intro pins s σ H D I h
 refine wpAny_Assign_stores (eZ (he pins s σ H _ I h) fun v s1 ⟨x,H1,I1,r1,q1⟩=>?_) hs hw
 rw [h1]
 exact eZ (hg pins s1 σ H1 x v _ I1 r1 q1) fun _ s2 q=>q
theorem LC {i:Nat} {x:Str} {e:Expr} {te:TE} {pos':Pos} (hN:X.N.Nodup) (hi:X.N[i]?=some x) (hx:Loc X.env.scope x) (he:PE X e te) (hs:swapsWith e (some (.Name x pos')) pos.line X.env=pure false:=by rfl) (hf:X.fn x=true∨X.env.scope.names.lookup x=some .local:=by first | exact .inl rfl | exact .inr rfl | assumption):
  PS X (.Assign [.Name x pos'] e pos) (JV te (uG i)):=by
 intro pins s σ H D I h
 refine wpAny_Assign_Name (eZ (he pins s σ H _ I h) fun v s1 ⟨y,H1,I1,r1,q1⟩=>?_) hs
 exact mJ I1 hN hi hx r1 (fun s2 I2=>⟨_,H1,I2,q1⟩) hf
def ZG (i j:Nat) (ta:TA):TS:=fun D σ H=>ta σ H fun vs H1=>∃v w,vs=[v,w]∧D.nx ((σ.set i (some v)).set j (some w)) H1
theorem U5 {i j:Nat} {x y:Str} {a b:Expr} {ta:TA} {px py pt:Pos} {kt k2 U6} (hc:X.calm=true) (hN:X.N.Nodup) (hi:X.N[i]?=some x) (hj:X.N[j]?=some y) (hij:i≠j)
  (hx:X.env.scope.names.lookup x=some .local) (hy:X.env.scope.names.lookup y=some .local) (ha:PA X [a,b] ta)
  (hw:swappedStores [.Tuple [.Name x px,.Name y py] kt pt] (.Tuple [a,b] k2 U6) X.env=pure (some [x,y]))
  (hs:swapsWithSole [.Tuple [.Name x px,.Name y py] kt pt] (.Tuple [a,b] k2 U6) pos.line X.env=pure false:=by rfl):
  PS X (.Assign [.Tuple [.Name x px,.Name y py] kt pt] (.Tuple [a,b] k2 U6) pos) (ZG i j ta):=by
 intro pins s σ H D I h
 rw [exec_Assign_arm]
 refine wpAny_bind (wpAny_standAt ?_)
 rw [hs]
 refine wpAny_bind (wpAny_pure ?_)
 rw [if_neg (by decide)]
 refine wpAny_bind (Tuple_ (eZ (ha _ pins s σ H _ I h) fun us s1 ⟨vs,H1,I1,r1,q1⟩=>?_))
 obtain ⟨v,w,e1,q1⟩:=q1
 subst e1
 obtain ⟨u1,u2,rfl,rv,rw'⟩:∃u1 u2,us=[u1,u2]∧RelV v u1∧RelV w u2:=by
  cases r1 with
  | cons p q=>
   cases q with
   | cons p' q'=>
    cases q'
    exact ⟨_,_,rfl,p,p'⟩
 refine wpAny_newObj_type ?_ (by show 2≤sizeLine; decide)
 have I2:Inv X pins σ H1 { s1 with heap:=s1.heap.push { cls:=.type "tuple",data:=.seq [u1,u2].toArray } }:=I1.kept (t':=s1.toks) fun b o e=>Heap.get?_push_of_some _ e
 rw [hw]
 refine wpAny_bind (wpAny_pure ?_)
 show wpAny (model X.prog X.w) X.A (do rule "assign.swapped-stores"; let items ←unpackItems (.ref s1.heap.objs.size) 2 none; assignInOrder [fun v=>bindName X.env y v,fun v=>bindName X.env x v] items.reverse; pure Flow.next) _ _ _
 refine wpAny_bind (wpAny_rule (wpAny_bind (unpackItems_tuple (items:=#[u1,u2]) (I.ok.hd hc) (IsTup.new s1.heap _) fun h' hx'=>?_)))
 have I3:=I2.kept (h':=h') (t':=s1.toks) fun b o e=>hx' b o (Nat.ne_of_lt (Heap.lt_size e)) e
 show wpAny _ _ (assignInOrder [fun v=>bindName X.env y v,fun v=>bindName X.env x v] [u2,u1] >>= fun _=>pure Flow.next) _ _ _
 refine wpAny_bind (assignInOrder_cons (wpAny_bindName (mJ I3 hN hj (.inl hy) rw' (fun s2 I4=>?_) (.inr hy))))
 refine assignInOrder_cons (wpAny_bindName (mJ I4 hN hi (.inl hx) rv (fun s3 I5=>assignInOrder_nil (wpAny_pure ?_)) (.inr hx)))
 rw [List.set_comm _ _ (Ne.symm hij)] at I5
 exact ⟨_,H1,I5,q1⟩
end
section
variable {X:Cx} {pos:Pos}
def LK (c:TT) (tb:TS):TS:=fun D σ H=>∃W:Nat→St→Hp→Prop,(∃m,W m σ H)∧∀m σ H,W m σ H→
 c σ H fun b H1=>if b=true then ∃N:St→Hp→Prop,(∀σ' H',N σ' H'→∃m',m' < m∧W m' σ' H')∧tb { D with nx:=N,ct:=N,bk:=D.nx } σ H1 else D.nx σ H1
theorem LQ {c:Expr} {body:List Stmt} {tc:TT} {tb:TS} (hp:PassesOwn (model X.prog X.w) X.A X.env X.xe) (hc:PT X c tc) (hb:uW X body tb):PS X (.While c body [] pos) (LK tc tb):=by
 intro pins s σ H D I h
 obtain ⟨W,⟨m0,w0⟩,turn⟩:=h
 refine wpAny_While (codeAny_whileLoop (fun n s'=>∃σ' H',Inv X pins σ' H' s'∧W n σ' H') ?_ m0 ⟨σ,H,I,w0⟩)
 rintro n s1 ⟨σ1,H1,I1,w1⟩
 refine wpAny_passesOwn hp (eZ (hc pins s1 σ1 H1 _ I1 (turn n σ1 H1 w1)) fun b s2 ⟨H2,I2,q2⟩=>?_)
 cases b with
 | true=>
  obtain ⟨N,hN,q2⟩:=q2
  rw [if_pos rfl]
  refine wpAny_passesOwn hp (eZ (hb pins s2 σ1 H2 _ I2 q2) fun f s3 q3=>?_)
  cases f with
  | next=>
   obtain ⟨σ3,H3,I3,n3⟩:=q3
   obtain ⟨m',hm,w3⟩:=hN σ3 H3 n3
   exact ⟨m',hm,σ3,H3,I3,w3⟩
  | cont=>
   obtain ⟨σ3,H3,I3,n3⟩:=q3
   obtain ⟨m',hm,w3⟩:=hN σ3 H3 n3
   exact ⟨m',hm,σ3,H3,I3,w3⟩
  | brk=>exact q3
  | ret v=>exact q3
 | false=>
  rw [if_neg Bool.false_ne_true]
  exact wpAny_execs_nil ⟨σ1,H2,I2,q2⟩
end
structure It where
 go:Nat→Hp→Prop
 Qm:Nat→Hp→V→Hp→Prop
 stop:Nat→Hp→Prop
def nD (X:Cx) (pins:List (Addr×Obj)) (H:Hp) (b:Addr):Prop:=
 H b=none∧b≠X.env.locals∧b∉X.fs∧(b∈X.ex∨X.s₀.heap.objs.size≤b)∧(∀x c,X.env.cells.lookup x=some c→c≠b)∧∀p∈X.pn++pins,p.1≠b
theorem Inv.Fj {X:Cx} {pins:List (Addr×Obj)} {σ:St} {H H':Hp} {s:Shared} {b:Addr} (I:Inv X pins σ H s) (hb:s.heap.objs.size≤b) (hn:H' b=none):nD X pins H' b:=by
 refine ⟨hn,Nat.ne_of_gt (Nat.lt_of_lt_of_le I.lt hb),I.Zw hb,.inr (Nat.le_trans I.sz hb),fun x c e z=>?_,fun p hp z=>?_⟩
 ·obtain ⟨v,q⟩:=I.cell x c e
  exact absurd (Nat.lt_of_lt_of_le q.lt (by rw [z]; exact hb)) (Nat.lt_irrefl _)
 ·exact absurd (Nat.lt_of_lt_of_le (Heap.lt_size (I.pin p hp).1) (by rw [z]; exact hb)) (Nat.lt_irrefl _)
structure Turn (P:Program) (w:World) (K:PySem.W.Frag) (tg:Expr) (J:It) (fp:List Addr) (it:Addr) (tn:Nat→Heap→Prop):Prop where
 mem:it∈fp
 obj:∀i h,tn i h→∀b∈fp,∃o,h.get? b=some o∧∀v,o.data≠.cell v
 keep:∀i h h',tn i h→(∀b∈fp,∀o,h.get? b=some o→h'.get? b=some o)→tn i h'
 item:∀(X:Cx),X.prog=P→X.w=w→X.K=K→X.calm=true→∀(i:Nat) (pins:List (Addr×Obj)) (s:Shared) (σ:St) (H:Hp) (E:Value→Shared→Prop),Inv X pins σ H s→(∀b∈fp,nD X pins H b)→tn i s.heap→J.go i H→
  wpAny (model P w) X.A (pyNext (.ref it)) (fun r s1=>∃u,r=some u∧
   wpAny (model P w) X.A (letOwnedTupleGo tg (.ref it) u) (fun _ s2=>∃x H',Inv X pins σ H' s2∧RelV x u∧J.Qm i H x H'∧tn (i + 1) s2.heap∧∀b∈fp,H' b=none) E s1) E s
 done:∀(X:Cx),X.prog=P→X.w=w→X.K=K→X.calm=true→∀(i:Nat) (pins:List (Addr×Obj)) (s:Shared) (σ:St) (H:Hp) (E:Value→Shared→Prop),Inv X pins σ H s→(∀b∈fp,nD X pins H b)→tn i s.heap→J.stop i H→
  wpAny (model P w) X.A (pyNext (.ref it)) (fun r s1=>r=none∧Inv X pins σ H s1) E s
 self:∀(A:Around) (i:Nat) (s:Shared) (Q:Value→Shared→Prop) (E:Value→Shared→Prop),tn i s.heap→Q (.ref it) s→wpAny (model P w) A (pyIter (.ref it)) Q E s
abbrev TI:=St→Hp→(It→Hp→Prop)→Prop
def PIE (X:Cx) (pins:List (Addr×Obj)) (σ:St) (tg:Expr) (R:It→Hp→Prop) (itv:Value) (s2:Shared):Prop:=
 ∃(it:Addr) (fp:List Addr) (tn:Nat→Heap→Prop) (J:It) (H':Hp),itv=.ref it∧Inv X pins σ H' s2∧Turn X.prog X.w X.K tg J fp it tn∧tn 0 s2.heap∧(∀b∈fp,nD X pins H' b)∧R J H'
def PI (X:Cx) (tg iter:Expr) (wi:TI):Prop:=
 ∀(pins:List (Addr×Obj)) (s:Shared) (σ:St) (H:Hp) (R:It→Hp→Prop),Inv X pins σ H s→wi σ H R→
  wpAny (model X.prog X.w) X.A (eval iter X.env) (fun v s1=>wpAny (model X.prog X.w) X.A (pyIter v) (PIE X pins σ tg R) X.xe s1) X.xe s
theorem LR {M:Model} {A:Around} {E:Value→Shared→Prop} {s:Shared} {tg:Expr} {it:Addr} {u:Value} {o:Obj} {n:String} {vs:Array Value} {Q:Unit→Shared→Prop} (ho:s.heap.get? it=some o) (hc:o.cls=.type n) (hd:o.data=.fields vs)
  (hn:["enumerate","zip","dict_itemiterator","dict_reverseitemiterator","odict_iterator","itertools.zip_longest","itertools.pairwise"].contains n=false) (hQ:Q () s):wpAny M A (letOwnedTupleGo tg (.ref it) u) Q E s:=by
 unfold letOwnedTupleGo
 cases tg <;> first
  | exact wpAny_pure hQ
  | (cases u <;> first
    | exact wpAny_pure hQ
    | (refine wpAny_bind (wpAny_load ho ?_)
       rw [hc,hd]
       show wpAny M A (if (["enumerate","zip","dict_itemiterator","dict_reverseitemiterator","odict_iterator","itertools.zip_longest","itertools.pairwise"].contains n&&vs[0]?==some (rawInt _))=true then _ else _) Q E s
       rw [if_neg (by intro h; rw [hn,Bool.false_and] at h; cases h)]
       exact wpAny_pure hQ))
def ZJ (K:PySem.W.Frag) (a:Addr):It:=
 ⟨fun i H=>∃xs x,dW K H a xs∧xs[i]?=some x,fun i H x H'=>H'=H∧∀xs,dW K H a xs→xs[i]?=some x,fun i H=>∃xs,dW K H a xs∧xs.length≤i⟩
def ZK (K:PySem.W.Frag) (a:Addr):It:=
 ⟨fun i H=>∃xs x,jz K H a xs∧xs[i]?=some x,fun i H x H'=>H'=H∧∀xs,jz K H a xs→xs[i]?=some x,fun i H=>∃xs,jz K H a xs∧xs.length≤i⟩
def Y8 (lo:Int) (n:Nat):It:=⟨fun i _=>i < n,fun i H x H'=>H'=H∧x=.int (lo + i),fun i _=>n≤i⟩
theorem JW {P:Program} {w:World} {K:PySem.W.Frag} {tg:Expr} (a it:Addr):Turn P w K tg (ZJ K a) [it] it (fun i h=>h.IsListIter it a i) where
 mem:=by simp
 obj:=fun i h st b hb=>by
  have e:b=it:=by simpa using hb
  subst e
  obtain ⟨o,e,c,d⟩:=st
  exact ⟨o,e,fun v z=>by rw [d] at z; cases z⟩
 keep:=fun i h h' st k=>st.at fun o e=>k it (by simp) o e
 item:=by
  intro X hP hw hK hc i pins s σ H E I hf st hg
  subst hP hw hK
  obtain ⟨xs,x,hq,hx⟩:=hg
  obtain ⟨its,rv,p,hz⟩:=I.list hq
  obtain ⟨u,hu,ru⟩:=rv.get hx
  obtain ⟨f0,f1,f2,f3,f4,f5⟩:=hf it (by simp)
  refine wpAny_pyNext_list_item st p.isList (x:=u) (by simpa using hu) fun h' st' sb=>?_
  have I1:Inv X pins σ H { s with heap:=h' }:=I.turned (t':=s.toks) (fun b o hb e=>(sb.2 b hb).trans e) f0 f1 f3 f4 f5
  obtain ⟨o,e,c,d⟩:=id st'
  exact ⟨u,rfl,LR (s:={ s with heap:=h' }) e c d (by decide) ⟨x,H,I1,ru,⟨rfl,fun ys hy=>by rw [I.vP hy hq]; exact hx⟩,st',fun b hb=>(hf b hb).1⟩⟩
 done:=by
  intro X hP hw hK hc i pins s σ H E I hf st hg
  subst hP hw hK
  obtain ⟨xs,hq,hx⟩:=hg
  obtain ⟨its,rv,p,hz⟩:=I.list hq
  obtain ⟨f0,f1,f2,f3,f4,f5⟩:=hf it (by simp)
  have hl:=rv.length
  exact wpAny_pyNext_list_end (I.ok.hd hc) st p.isList (by simp; omega) fun h' eb=>⟨rfl,I.turned (t':=s.toks) (fun b o hb e=>eb b o hb e) f0 f1 f3 f4 f5⟩
 self:=fun _ _ _ _ _ st h=>wpAny_pyIter_listiter st h
theorem Fo {P:Program} {w:World} {K:PySem.W.Frag} {tg:Expr} (a it:Addr):Turn P w K tg (ZK K a) [it] it (fun i h=>h.IsTupleIter it a i) where
 mem:=by simp
 obj:=fun i h st b hb=>by
  have e:b=it:=by simpa using hb
  subst e
  obtain ⟨o,e,c,d⟩:=st
  exact ⟨o,e,fun v z=>by rw [d] at z; cases z⟩
 keep:=fun i h h' st k=>st.at fun o e=>k it (by simp) o e
 item:=by
  intro X hP hw hK hc i pins s σ H E I hf st hg
  subst hP hw hK
  obtain ⟨xs,x,hq,hx⟩:=hg
  obtain ⟨its,rv,p,hz⟩:=I.tuple hq
  obtain ⟨u,hu,ru⟩:=rv.get hx
  obtain ⟨f0,f1,f2,f3,f4,f5⟩:=hf it (by simp)
  refine wpAny_pyNext_tuple_item st (show s.heap.IsTuple a its.toArray from p) (x:=u) (by simpa using hu) fun h' st' sb=>?_
  have I1:Inv X pins σ H { s with heap:=h' }:=I.turned (t':=s.toks) (fun b o hb e=>(sb.2 b hb).trans e) f0 f1 f3 f4 f5
  obtain ⟨o,e,c,d⟩:=id st'
  exact ⟨u,rfl,LR (s:={ s with heap:=h' }) e c d (by decide) ⟨x,H,I1,ru,⟨rfl,fun ys hy=>by rw [I.JT hy hq]; exact hx⟩,st',fun b hb=>(hf b hb).1⟩⟩
 done:=by
  intro X hP hw hK hc i pins s σ H E I hf st hg
  subst hP hw hK
  obtain ⟨xs,hq,hx⟩:=hg
  obtain ⟨its,rv,p,hz⟩:=I.tuple hq
  obtain ⟨f0,f1,f2,f3,f4,f5⟩:=hf it (by simp)
  have hl:=rv.length
  exact wpAny_pyNext_tuple_end (I.ok.hd hc) st (show s.heap.IsTuple a its.toArray from p) (by simp; omega) fun h' eb=>⟨rfl,I.turned (t':=s.toks) (fun b o hb e=>eb b o hb e) f0 f1 f3 f4 f5⟩
 self:=fun _ _ _ _ _ st h=>wpAny_pyIter_tupleiter st h
theorem Fp {P:Program} {w:World} {K:PySem.W.Frag} {tg:Expr} (it:Addr) (lo:Int) (n:Nat):Turn P w K tg (Y8 lo n) [it] it (fun i h=>IsRangeIter h it (lo + (i:Nat) * 1) ((n:Int) - (i:Nat)) 1) where
 mem:=by simp
 obj:=fun i h st b hb=>by
  have e:b=it:=by simpa using hb
  subst e
  exact ⟨_,st,fun v z=>by
   have z':Data.fields _=Data.cell v:=z
   cases z'⟩
 keep:=fun i h h' st k=>k it (by simp) _ st
 item:=by
  intro X hP hw hK hc i pins s σ H E I hf st hg
  subst hP hw hK
  obtain ⟨f0,f1,f2,f3,f4,f5⟩:=hf it (by simp)
  have W:=Walks.range (prog:=X.prog) (w:=X.w) (I.ok.hd hc) it lo 1 n
  refine W.item i s _ _ hg st fun v h' tk hv st' kk=>?_
  obtain ⟨t,rfl⟩:=hv
  have I1:Inv X pins σ H { s with heap:=h',toks:=tk }:=I.turned (fun b o hb e=>kk b o (by simpa using hb) e) f0 f1 f3 f4 f5
  refine ⟨_,rfl,LR (s:={ s with heap:=h',toks:=tk }) (n:="range_iterator") st' rfl rfl (by decide) ⟨.int (lo + i),H,I1,⟨t,?_⟩,⟨rfl,rfl⟩,st',fun b hb=>(hf b hb).1⟩⟩
  rw [Int.mul_one]
 done:=by
  intro X hP hw hK hc i pins s σ H E I hf st hg
  subst hP hw hK
  obtain ⟨f0,f1,f2,f3,f4,f5⟩:=hf it (by simp)
  exact wpAny_pyNext_range_end (I.ok.hd hc) st (by have:n≤i:=hg; omega) fun h' eb=>⟨rfl,I.turned (t':=s.toks) (fun b o hb e=>eb b o hb e) f0 f1 f3 f4 f5⟩
 self:=fun _ _ _ _ _ st h=>wpAny_pyIter_rangeiter st h
end L2
namespace L2
open PySem PySem.Spec PyProof.Rows
section
variable {X:Cx} {tg:Expr}
def Xf (K:PySem.W.Frag) (tl:TE):TI:=fun σ H R=>tl σ H fun x H1=>∃a,x=.ref a∧(∃xs,dW K H1 a xs)∧R (ZJ K a) H1
def ZL (K:PySem.W.Frag) (tl:TE):TI:=fun σ H R=>tl σ H fun x H1=>∃a,x=.ref a∧(∃xs,jz K H1 a xs)∧R (ZK K a) H1
theorem vg {l:Expr} {tl:TE} (hl:PE X l tl):PI X tg l (Xf X.K tl):=by
 intro pins s σ H R I h
 refine eZ (hl pins s σ H _ I h) fun v s1 ⟨x,H1,I1,r1,q1⟩=>?_
 obtain ⟨a,e,⟨xs,hq⟩,q⟩:=q1
 subst e
 cases r1
 obtain ⟨its,rv,p,hz⟩:=I1.list hq
 refine wpAny_pyIter_list p.isList ?_
 refine ⟨s1.heap.objs.size,[s1.heap.objs.size],_,_,H1,rfl,I1.kept (t':=s1.toks) fun b o e=>Heap.get?_push_of_some _ e,JW a _,⟨_,Heap.get?_push_size _ rfl,rfl,rfl⟩,fun b hb=>?_,q⟩
 have e:b=s1.heap.objs.size:=by simpa using hb
 subst e
 exact I1.Fj (Nat.le_refl _) (I1.hok.fresh (Nat.le_refl _))
theorem z9 {l:Expr} {tl:TE} (hl:PE X l tl):PI X tg l (ZL X.K tl):=by
 intro pins s σ H R I h
 refine eZ (hl pins s σ H _ I h) fun v s1 ⟨x,H1,I1,r1,q1⟩=>?_
 obtain ⟨a,e,⟨xs,hq⟩,q⟩:=q1
 subst e
 cases r1
 obtain ⟨its,rv,p,hz⟩:=I1.tuple hq
 refine wpAny_pyIter_tuple (show s1.heap.IsTuple a its.toArray from p) ?_
 refine ⟨s1.heap.objs.size,[s1.heap.objs.size],_,_,H1,rfl,I1.kept (t':=s1.toks) fun b o e=>Heap.get?_push_of_some _ e,Fo a _,⟨_,Heap.get?_push_size _ rfl,rfl,rfl⟩,fun b hb=>?_,q⟩
 have e:b=s1.heap.objs.size:=by simpa using hb
 subst e
 exact I1.Fj (Nat.le_refl _) (I1.hok.fresh (Nat.le_refl _))
theorem Ma {pins:List (Addr×Obj)} {σ:St} {H:Hp} {s:Shared} {R:It→Hp→Prop} {E:Value→Shared→Prop} {lo hi:Int} {t u v:Tok} {tk:Nat} (I:Inv X pins σ H s) (h1:-(2 ^ 62)≤lo) (h2:lo < 2 ^ 62) (h3:-(2 ^ 62)≤hi) (h4:hi < 2 ^ 62)
  (q:R (Y8 lo (hi - lo).toNat) H):wpAny (model X.prog X.w) X.A (pyIter (.ref s.heap.objs.size)) (PIE X pins σ tg R) E { s with heap:=s.heap.push { cls:=.type "range",data:=.fields #[.int lo t,.int hi u,.int 1 v] },toks:=tk }:=by
 refine wpAny_pyIter_range (IsRange.new ..) (small_one h1 h2 h3 h4) ?_
 have I1:Inv X pins σ H { s with heap:=s.heap.push { cls:=.type "range",data:=.fields #[.int lo t,.int hi u,.int 1 v] },toks:=tk }:=I.kept fun b o e=>Heap.get?_push_of_some _ e
 refine ⟨(s.heap.push { cls:=.type "range",data:=.fields #[.int lo t,.int hi u,.int 1 v] }).objs.size,[(s.heap.push { cls:=.type "range",data:=.fields #[.int lo t,.int hi u,.int 1 v] }).objs.size],_,_,H,rfl,
  I1.kept (t':=tk) fun b o e=>Heap.get?_push_of_some _ e,Fp _ lo (hi - lo).toNat,?_,fun b hb=>?_,q⟩
 ·have e1:lo + ((0:Nat):Int) * 1=lo:=by simp
  have e2:(((hi - lo).toNat:Nat):Int) - ((0:Nat):Int)=Builtin.Range.rangeSize lo hi 1:=by rw [rangeSize_one]; split <;> omega
  show IsRangeIter _ _ (lo + ((0:Nat):Int) * 1) ((((hi - lo).toNat:Nat):Int) - ((0:Nat):Int)) 1
  rw [e1,e2]
  exact Heap.get?_push_size _ rfl
 ·have e:b=(s.heap.push { cls:=.type "range",data:=.fields #[.int lo t,.int hi u,.int 1 v] }).objs.size:=by simpa using hb
  subst e
  exact I1.Fj (Nat.le_refl _) (I1.hok.fresh (Nat.le_refl _))
def Xg (ta:TA):TI:=fun σ H R=>ta σ H fun vs H1=>∃j:Int,vs=[.int j]∧-(2 ^ 62)≤j∧j < 2 ^ 62∧R (Y8 0 j.toNat) H1
theorem JX {a:Expr} {ta:TA} {p pos:Pos} (hg:Gl X "range") (hm:X.mg "range"=none) (ha:PA X [a] ta) (hs:starEach [a] X.env=[(false,eval a X.env)]:=by rfl):PI X tg (.Call (.Name "range" p) [a] [] pos) (Xg ta):=by
 intro pins s σ H R I h
 refine Call_ (nC I hg hm boot_range (PyProof.Rows.callWith_type1 (eZ (ha pos pins s σ H _ I h) fun us s1 ⟨vs,H1,I1,r1,q1⟩=>?_) hs rfl))
 obtain ⟨j,e,q1,q2,q⟩:=q1
 subst e
 cases r1 with
 | cons r rr=>
  cases rr
  obtain ⟨t,rfl⟩:=r
  exact call_range_1 (Ma I1 (by omega) (by omega) q1 q2 (by simpa using q))
def Xh (wi:TI) (g:TG) (tb:TS):TS:=fun D σ H=>wi σ H fun J H1=>∃W:Nat→Nat→St→Hp→Prop,(∃m,W 0 m σ H1)∧∀i m σ H,W i m σ H→
 (J.stop i H∧D.nx σ H)∨(J.go i H∧∃N:St→Hp→Prop,(∀σ' H',N σ' H'→∃m',m' < m∧W (i + 1) m' σ' H')∧∀x H',J.Qm i H x H'→g x σ H' fun σ2 H2=>tb { D with nx:=N,ct:=N,bk:=D.nx } σ2 H2)
def vR (fp:List Addr) (h:Heap):List (Addr×Obj):=fp.filterMap fun b=>(h.get? b).map fun o=>(b,o)
theorem nF {fp:List Addr} {h:Heap} {b:Addr} {o:Obj} (hb:b∈fp) (e:h.get? b=some o):(b,o)∈vR fp h:=List.mem_filterMap.mpr ⟨b,hb,by rw [e]; rfl⟩
theorem JZ {fp:List Addr} {h:Heap} {p:Addr×Obj} (hp:p∈vR fp h):p.1∈fp∧h.get? p.1=some p.2:=by
 obtain ⟨b,hb,e⟩:=List.mem_filterMap.mp hp
 cases q:h.get? b with
 | none=>rw [q] at e; cases e
 | some o=>
  rw [q] at e
  have e':(b,o)=p:=Option.some.inj e
  subst e'
  exact ⟨hb,q⟩
theorem Inv.pinned {pins:List (Addr×Obj)} {σ:St} {H:Hp} {s:Shared} {fp:List Addr} (I:Inv X pins σ H s) (hf:∀b∈fp,nD X pins H b) (ho:∀b∈fp,∃o,s.heap.get? b=some o∧∀v,o.data≠.cell v):Inv X (pins++vR fp s.heap) σ H s:=
 I.HQ fun p hp=>(List.mem_append.mp hp).elim (fun z=>I.pin p (List.mem_append_right _ z)) fun z=>by
  obtain ⟨hb,e⟩:=JZ z
  obtain ⟨f0,f1,f2,_⟩:=hf p.1 hb
  obtain ⟨o,e',d⟩:=ho p.1 hb
  rw [e] at e'; cases e'
  exact ⟨e,f0,f1,f2,d⟩
theorem Inv.rE {pins pl:List (Addr×Obj)} {σ:St} {H:Hp} {s:Shared} (I:Inv X (pins++pl) σ H s):Inv X pins σ H s:=I.HQ fun p hp=>I.pin p (List.mem_append_right _ (List.mem_append_left _ hp))
theorem U7 {iter:Expr} {body:List Stmt} {wi:TI} {g:TG} {tb:TS} {pos:Pos} (hp:PassesOwn (model X.prog X.w) X.A X.env X.xe) (hc:X.calm=true) (hi:PI X tg iter wi) (hg:PG X tg g) (hb:uW X body tb)
  (hs:∀x,foldedSetIterable iter X.env x=pure x:=by intro _; rfl):PS X (.For tg iter body [] pos) (Xh wi g tb):=by
 intro pins s σ H D I h
 refine wpAny_For (eZ (hi pins s σ H _ I h) fun v s1 h1=>eZ h1 fun itv s2 h2=>?_) hs
 obtain ⟨it,fp,tn,J,H2,e,I2,T,st2,f2,W,⟨m0,w0⟩,turn⟩:=h2
 subst e
 have stat:∀{H':Hp},(∀b∈fp,H' b=none)→∀b∈fp,nD X pins H' b:=fun hn b hb=>⟨hn b hb,(f2 b hb).2⟩
 refine codeAny_forLoop_any (fun n s'=>∃i σ' H',Inv X pins σ' H' s'∧tn i s'.heap∧(∀b∈fp,H' b=none)∧W i n σ' H') ?_ m0 ⟨0,σ,H2,I2,st2,fun b hb=>(f2 b hb).1,w0⟩
 rintro n s3 ⟨i,σ3,H3,I3,st3,Xi,w3⟩
 rcases turn i n σ3 H3 w3 with ⟨stop,qn⟩ | ⟨go,N,hN,step⟩
 ·refine wpAny_passesOwn hp (eZ (T.done X rfl rfl rfl hc i pins s3 σ3 H3 X.xe I3 (stat Xi) st3 stop) fun r s4 ⟨hr,I4⟩=>?_)
  subst hr
  exact wpAny_execs_nil ⟨σ3,H3,I4,qn⟩
 ·refine wpAny_passesOwn hp (eZ (T.item X rfl rfl rfl hc i pins s3 σ3 H3 X.xe I3 (stat Xi) st3 go) fun r s4 ⟨u,hr,h4⟩=>?_)
  subst hr
  refine wpAny_passesOwn hp (eZ h4 fun _ s5 ⟨x,H5,I5,r5,y5,U8,ZM⟩=>?_)
  have ZP:=I5.pinned (stat ZM) (T.obj _ _ U8)
  refine wpAny_passesOwn hp (eZ (hg _ s5 σ3 H5 x u _ ZP r5 (step x H5 y5)) fun _ s6 ⟨σ6,H6,I6,q6⟩=>?_)
  refine wpAny_passesOwn hp (eZ (hb _ s6 σ6 H6 _ I6 q6) fun f s7 q7=>?_)
  have again:∀{σ7:St} {H7:Hp},Inv X (pins++vR fp s5.heap) σ7 H7 s7→N σ7 H7→∃m,m < n∧∃i σ' H',Inv X pins σ' H' s7∧tn i s7.heap∧(∀b∈fp,H' b=none)∧W i m σ' H':=fun {σ7 H7} I7 n7=>by
   obtain ⟨m',hm,w7⟩:=hN σ7 H7 n7
   refine ⟨m',hm,i + 1,σ7,H7,I7.rE,T.keep _ _ _ U8 fun b hb o e=>(I7.pin (b,o) (List.mem_append_right _ (List.mem_append_right _ (nF hb e)))).1,fun b hb=>?_,w7⟩
   obtain ⟨o,e,d⟩:=T.obj _ _ U8 b hb
   exact (I7.pin (b,o) (List.mem_append_right _ (List.mem_append_right _ (nF hb e)))).2.1
  cases f with
  | next=>obtain ⟨σ7,H7,I7,n7⟩:=q7; exact again I7 n7
  | cont=>obtain ⟨σ7,H7,I7,n7⟩:=q7; exact again I7 n7
  | brk=>obtain ⟨σ7,H7,I7,q7⟩:=q7; exact ⟨σ7,H7,I7.rE,q7⟩
  | ret v=>obtain ⟨x7,σ7,H7,I7,r7,q7⟩:=q7; exact ⟨x7,σ7,H7,I7.rE,r7,q7⟩
end
end L2
namespace L2
open PySem PySem.Spec PyProof.Rows
abbrev R2:=V→V→Hp→VK→Prop
def jQ (X:Cx) (f:Value→Value→Sem Value) (r:R2):Prop:=
 ∀(pins:List (Addr×Obj)) (s:Shared) (σ:St) (H:Hp) (x y:V) (v u:Value) (Q:VK),Inv X pins σ H s→RelV x v→RelV y u→r x y H Q→
  wpAny (model X.prog X.w) X.A (f v u) (EP X pins σ Q) X.xe s
def ZQ (X:Cx) (f:Value→Sem Value) (r:V→Hp→VK→Prop):Prop:=
 ∀(pins:List (Addr×Obj)) (s:Shared) (σ:St) (H:Hp) (x:V) (v:Value) (Q:VK),Inv X pins σ H s→RelV x v→r x H Q→
  wpAny (model X.prog X.w) X.A (f v) (EP X pins σ Q) X.xe s
def dF (X:Cx) (f:Value) (r:List V→Hp→VK→Prop):Prop:=
 ∀(pins:List (Addr×Obj)) (s:Shared) (σ:St) (H:Hp) (xs:List V) (us:List Value) (Q:VK),Inv X pins σ H s→Vals xs us→r xs H Q→
  wpAny (model X.prog X.w) X.A (call f us) (EP X pins σ Q) X.xe s
def ZR (X:Cx) (r:V→Hp→(Bool→Hp→Prop)→Prop):Prop:=
 ∀(pins:List (Addr×Obj)) (s:Shared) (σ:St) (H:Hp) (x:V) (v:Value) (Q:Bool→Hp→Prop),Inv X pins σ H s→RelV x v→r x H Q→
  wpAny (model X.prog X.w) X.A (truthy v) (TP X pins σ Q) X.xe s
def Xj (r:R2) (ta tb:TE):TE:=fun σ H Q=>ta σ H fun x H1=>tb σ H1 fun y H2=>r x y H2 Q
def tUn (r:V→Hp→VK→Prop) (ta:TE):TE:=fun σ H Q=>ta σ H fun x H1=>r x H1 Q
def rI (C:Int→Int→Prop) (g:Int→Int→V):R2:=fun x y H Q=>∃i j,x=.int i∧y=.int j∧C i j∧Q (g i j) H
def J0 (g:Int→Int→V):R2:=fun x y H Q=>∃i j,x=.int i∧y=.int j∧Q (g i j) H
def rU (g:Int→V):V→Hp→VK→Prop:=fun x H Q=>∃i,x=.int i∧Q (g i) H
section
variable {X:Cx} {a b c:Expr} {ta tb tc:TE} {pos:Pos}
theorem U9 (ha:PE X a ta) (hb:PE X b tb) {pins:List (Addr×Obj)} {s:Shared} {σ:St} {H:Hp} {R:V→V→Hp→Prop} (I:Inv X pins σ H s)
  (h:ta σ H fun x H1=>tb σ H1 fun y H2=>R x y H2) {Q:Value→Shared→Prop} {f:Value→Value→Sem Value}
  (hf:∀v u s2 x y H2,Inv X pins σ H2 s2→RelV x v→RelV y u→R x y H2→wpAny (model X.prog X.w) X.A (f v u) Q X.xe s2):
  wpAny (model X.prog X.w) X.A (eval a X.env) (fun v s₁=>wpAny (model X.prog X.w) X.A (eval b X.env) (fun u s₂=>wpAny (model X.prog X.w) X.A (f v u) Q X.xe s₂) X.xe s₁) X.xe s:=by
 refine eZ (ha pins s σ H _ I h) fun v s1 ⟨x,H1,I1,r1,q1⟩=>?_
 refine eZ (hb pins s1 σ H1 _ I1 q1) fun u s2 ⟨y,H2,I2,r2,q2⟩=>?_
 exact hf v u s2 x y H2 I2 r1 r2 q2
theorem Xk {op:Operator} {r:R2} (ho:jQ X (binaryOp op) r) (ha:PE X a ta) (hb:PE X b tb):PE X (.BinOp a op b pos) (Xj r ta tb):=by
 intro pins s σ H Q I h
 exact wpAny_BinOp (U9 ha hb I h fun v u s2 x y H2 I2 rx ry q=>ho pins s2 σ H2 x y v u Q I2 rx ry q)
theorem Xl {op:UnaryOp} {r:V→Hp→VK→Prop} (ho:ZQ X (unaryOp op) r) (ha:PE X a ta):PE X (.UnaryOp op a pos) (tUn r ta):=by
 intro pins s σ H Q I h
 exact UnaryOp_ (eZ (ha pins s σ H _ I h) fun v s1 ⟨x,H1,I1,r1,q1⟩=>ho pins s1 σ H1 x v Q I1 r1 q1)
theorem Y9 {f:Value→Value→Sem Value} {C:Int→Int→Prop} {g:Int→Int→Int}
  (rule:∀(i j:Int) (t u:Tok) (s:Shared) (Q:Value→Shared→Prop) (E:Value→Shared→Prop),C i j→Q (.int (g i j) s.toks) { s with toks:=s.toks + 1 }→wpAny (model X.prog X.w) X.A (f (.int i t) (.int j u)) Q E s):
  jQ X f (rI C fun i j=>.int (g i j)):=by
 intro pins s σ H x y v u Q I rx ry h
 obtain ⟨i,j,rfl,rfl,hc,q⟩:=h
 obtain ⟨t,rfl⟩:=rx
 obtain ⟨t',rfl⟩:=ry
 exact rule i j t t' s _ _ hc ⟨.int (g i j),H,I.tok _,⟨_,rfl⟩,q⟩
theorem Xm {f:Value→Value→Sem Value} {g:Int→Int→Int}
  (rule:∀(i j:Int) (t u:Tok) (s:Shared) (Q:Value→Shared→Prop) (E:Value→Shared→Prop),Q (.int (g i j) s.toks) { s with toks:=s.toks + 1 }→wpAny (model X.prog X.w) X.A (f (.int i t) (.int j u)) Q E s):
  jQ X f (J0 fun i j=>.int (g i j)):=by
 intro pins s σ H x y v u Q I rx ry h
 obtain ⟨i,j,rfl,rfl,q⟩:=h
 obtain ⟨t,rfl⟩:=rx
 obtain ⟨t',rfl⟩:=ry
 exact rule i j t t' s _ _ ⟨.int (g i j),H,I.tok _,⟨_,rfl⟩,q⟩
theorem Va {f:Value→Value→Sem Value} {g:Int→Int→Bool}
  (rule:∀(i j:Int) (t u:Tok) (s:Shared) (Q:Value→Shared→Prop) (E:Value→Shared→Prop),Q (.bool (g i j)) s→wpAny (model X.prog X.w) X.A (f (.int i t) (.int j u)) Q E s):
  jQ X f (J0 fun i j=>.bl (g i j)):=by
 intro pins s σ H x y v u Q I rx ry h
 obtain ⟨i,j,rfl,rfl,q⟩:=h
 obtain ⟨t,rfl⟩:=rx
 obtain ⟨t',rfl⟩:=ry
 exact rule i j t t' s _ _ ⟨.bl (g i j),H,I,rfl,q⟩
def Xn (i j:Int):Prop:=0 < j∧j < 1073741824
def Xo (i j:Int):Prop:=0≤j∧j≤1000000∧i.natAbs < 2 ^ 64
def QD (i j:Int):Prop:=(-(2 ^ 64) < i∧i < 2 ^ 64)∨(-(2 ^ 64) < j∧j < 2 ^ 64)
theorem QD.ok {i j:Int} (h:QD i j):IntMulOk i j:=by
 rcases h with ⟨h1,h2⟩ | ⟨h1,h2⟩
 ·exact .of_left (intBits_le_64 h1 h2)
 ·exact .of_right (intBits_le_64 h1 h2)
theorem Vb:jQ X (binaryOp .Add) (J0 fun i j=>.int (i + j)):=Xm fun _ _ _ _ _ _ _ q=>add_int q
theorem Fq:jQ X (binaryOp .Sub) (J0 fun i j=>.int (i - j)):=Xm fun _ _ _ _ _ _ _ q=>sub_int q
theorem tQ:jQ X (binaryOp .Mult) (rI QD fun i j=>.int (i * j)):=Y9 fun _ _ _ _ _ _ _ hc q=>mul_int q hc.ok
theorem HS:jQ X (binaryOp .FloorDiv) (rI Xn fun i j=>.int (i / j)):=Y9 fun i j _ _ _ _ _ hc q=>by
 have h1:(0:Int) < j:=hc.1
 have h2:j < 1073741824:=hc.2
 exact floordiv_int (by omega) (by rw [Int.fdiv_eq_ediv_of_nonneg i (by omega)]; exact q) (.inl (PyProof.noPylong_small (by omega)))
theorem qz:jQ X (binaryOp .Mod) (rI (fun _ j=>0 < j) fun i j=>.int (i % j)):=Y9 fun i j _ _ _ _ _ hc q=>by
 have h1:(0:Int) < j:=hc
 exact mod_int' (by omega) (by rw [Int.fmod_eq_emod_of_nonneg i (by omega)]; exact q)
theorem Ft:jQ X (binaryOp .Pow) (rI Xo fun i j=>.int (i ^ j.toNat)):=Y9 fun _ _ _ _ _ _ _ hc q=>pow_int_small hc.1 hc.2.1 hc.2.2 q
theorem unI {f:Value→Sem Value} {g:Int→Int}
  (rule:∀(i:Int) (t:Tok) (s:Shared) (Q:Value→Shared→Prop) (E:Value→Shared→Prop),Q (.int (g i) s.toks) { s with toks:=s.toks + 1 }→wpAny (model X.prog X.w) X.A (f (.int i t)) Q E s):
  ZQ X f (rU fun i=>.int (g i)):=by
 intro pins s σ H x v Q I rx h
 obtain ⟨i,rfl,q⟩:=h
 obtain ⟨t,rfl⟩:=rx
 exact rule i t s _ _ ⟨.int (g i),H,I.tok _,⟨_,rfl⟩,q⟩
theorem Vc:ZQ X (unaryOp .USub) (rU fun i=>.int (-i)):=unI fun _ _ _ _ _ q=>neg_int q
end
def Vd:V→V→Bool
 | .non,.non=>true | .non,.int _=>true | .int _,.non=>true | .non,.bl _=>true | .bl _,.non=>true | .non,.str _=>true | .str _,.non=>true
 | .int _,.int _=>true | .bl _,.bl _=>true | .str _,.str _=>true | .JR _,.JR _=>true
 | .int _,.str _=>true | .str _,.int _=>true | .bl _,.str _=>true | .str _,.bl _=>true
 | _,_=>false
def rEq:R2:=fun x y H Q=>Vd x y=true∧Q (.bl (decide (x=y))) H
def rNe:R2:=fun x y H Q=>Vd x y=true∧Q (.bl (!decide (x=y))) H
theorem Aa {i j:Int}:decide (V.int i=V.int j)=(i==j):=by
 rw [Bool.eq_iff_iff]
 simp
theorem Fv {i j:Bool}:decide (V.bl i=V.bl j)=(i==j):=by
 rw [Bool.eq_iff_iff]
 simp
theorem Ab {i j:Str}:decide (V.str i=V.str j)=(i==j):=by
 rw [Bool.eq_iff_iff]
 simp
theorem HW {i j:Array UInt8}:decide (V.JR i=V.JR j)=(i.toList==j.toList):=by
 rw [Bool.eq_iff_iff]
 cases i
 cases j
 simp
section
variable {X:Cx} {a b c:Expr} {ta tb tc:TE} {pos:Pos}
theorem bU {pins:List (Addr×Obj)} {σ:St} {H:Hp} {s:Shared} {Q:VK} {k k':Bool} (I:Inv X pins σ H s) (q:Q (.bl k) H) (e:k=k'):EP X pins σ Q (.bool k') s:=by
 subst e
 exact ⟨.bl k,H,I,rfl,q⟩
theorem Xp:jQ X (compareOp .Eq) rEq:=by
 intro pins s σ H x y v u Q I rx ry h
 obtain ⟨hs,q⟩:=h
 cases x with
 | non=>
  cases rx
  cases y with
  | non=>cases ry; exact PySem.EqNone.eq_none_none (bU I q (by simp))
  | bl j=>cases ry; exact PySem.EqNone.eq_none_bool (bU I q (by simp))
  | int j=>obtain ⟨t',rfl⟩:=ry; exact PySem.EqNone.eq_none_int (bU I q (by simp))
  | str j=>obtain ⟨t',rfl⟩:=ry; exact PySem.EqNone.eq_none_str (bU I q (by simp))
  | _=>exact absurd (show false=true from hs) Bool.false_ne_true
 | bl i=>
  cases rx
  cases y with
  | non=>cases ry; exact PySem.EqNone.eq_bool_none (bU I q (by simp))
  | bl j=>cases ry; exact eq_bool (bU I q Fv)
  | str j=>obtain ⟨t',rfl⟩:=ry; exact PySem.EqMixed.eq_bool_str (bU I q (by simp))
  | _=>exact absurd (show false=true from hs) Bool.false_ne_true
 | int i=>
  obtain ⟨t,rfl⟩:=rx
  cases y with
  | non=>cases ry; exact PySem.EqNone.eq_int_none (bU I q (by simp))
  | int j=>obtain ⟨t',rfl⟩:=ry; exact eq_int (bU I q Aa)
  | str j=>obtain ⟨t',rfl⟩:=ry; exact PySem.EqMixed.eq_int_str (bU I q (by simp))
  | _=>exact absurd (show false=true from hs) Bool.false_ne_true
 | str i=>
  obtain ⟨t,rfl⟩:=rx
  cases y with
  | non=>cases ry; exact PySem.EqNone.eq_str_none (bU I q (by simp))
  | bl j=>cases ry; exact PySem.EqMixed.eq_str_bool (bU I q (by simp))
  | int j=>obtain ⟨t',rfl⟩:=ry; exact PySem.EqMixed.eq_str_int (bU I q (by simp))
  | str j=>obtain ⟨t',rfl⟩:=ry; exact eq_str (bU I q Ab)
  | _=>exact absurd (show false=true from hs) Bool.false_ne_true
 | JR i=>
  obtain ⟨t,rfl⟩:=rx
  cases y with
  | JR j=>obtain ⟨t',rfl⟩:=ry; exact PySem.W.eq_bytes (bU I q HW)
  | _=>exact absurd (show false=true from hs) Bool.false_ne_true
 | _=>cases y <;> exact absurd (show false=true from hs) Bool.false_ne_true
theorem Xq:jQ X (compareOp .NotEq) rNe:=by
 intro pins s σ H x y v u Q I rx ry h
 obtain ⟨hs,q⟩:=h
 cases x with
 | non=>
  cases rx
  cases y with
  | non=>cases ry; exact PySem.EqNone.ne_none_none (bU I q (by simp))
  | bl j=>cases ry; exact PySem.EqNone.ne_none_bool (bU I q (by simp))
  | int j=>obtain ⟨t',rfl⟩:=ry; exact PySem.EqNone.ne_none_int (bU I q (by simp))
  | str j=>obtain ⟨t',rfl⟩:=ry; exact PySem.EqNone.ne_none_str (bU I q (by simp))
  | _=>exact absurd (show false=true from hs) Bool.false_ne_true
 | bl i=>
  cases rx
  cases y with
  | non=>cases ry; exact PySem.EqNone.ne_bool_none (bU I q (by simp))
  | bl j=>cases ry; exact ne_bool (bU I q (congrArg not Fv))
  | str j=>obtain ⟨t',rfl⟩:=ry; exact PySem.EqMixed.ne_bool_str (bU I q (by simp))
  | _=>exact absurd (show false=true from hs) Bool.false_ne_true
 | int i=>
  obtain ⟨t,rfl⟩:=rx
  cases y with
  | non=>cases ry; exact PySem.EqNone.ne_int_none (bU I q (by simp))
  | int j=>obtain ⟨t',rfl⟩:=ry; exact ne_int (bU I q (congrArg not Aa))
  | str j=>obtain ⟨t',rfl⟩:=ry; exact PySem.EqMixed.ne_int_str (bU I q (by simp))
  | _=>exact absurd (show false=true from hs) Bool.false_ne_true
 | str i=>
  obtain ⟨t,rfl⟩:=rx
  cases y with
  | non=>cases ry; exact PySem.EqNone.ne_str_none (bU I q (by simp))
  | bl j=>cases ry; exact PySem.EqMixed.ne_str_bool (bU I q (by simp))
  | int j=>obtain ⟨t',rfl⟩:=ry; exact PySem.EqMixed.ne_str_int (bU I q (by simp))
  | str j=>obtain ⟨t',rfl⟩:=ry; exact ne_str (bU I q (congrArg not Ab))
  | _=>exact absurd (show false=true from hs) Bool.false_ne_true
 | JR i=>
  obtain ⟨t,rfl⟩:=rx
  cases y with
  | JR j=>obtain ⟨t',rfl⟩:=ry; exact PySem.W.ne_bytes (bU I q (congrArg not HW))
  | _=>exact absurd (show false=true from hs) Bool.false_ne_true
 | _=>cases y <;> exact absurd (show false=true from hs) Bool.false_ne_true
theorem Xr:jQ X (compareOp .LtE) (J0 fun i j=>.bl (decide (i≤j))):=Va fun _ _ _ _ _ _ _ q=>le_int q
theorem Xu:jQ X (compareOp .Gt) (J0 fun i j=>.bl (decide (j < i))):=Va fun _ _ _ _ _ _ _ q=>gt_int q
theorem Xv:jQ X (compareOp .GtE) (J0 fun i j=>.bl (decide (j≤i))):=Va fun _ _ _ _ _ _ _ q=>ge_int q
theorem Mf:jQ X (compareOp .Is) (fun x y H Q=>y=.non∧Q (.bl (decide (x=.non))) H):=by
 intro pins s σ H x y v u Q I rx ry h
 obtain ⟨rfl,q⟩:=h
 cases ry
 refine is_none_gen (bU I q ?_)
 cases x <;> first
  | (cases rx; rfl)
  | (obtain ⟨t,rfl⟩:=rx; rfl)
theorem jQ.or {f:Value→Value→Sem Value} {r r':R2} (h:jQ X f r) (h':jQ X f r'):jQ X f (fun x y H Q=>r x y H Q∨r' x y H Q):=by
 intro pins s σ H x y v u Q I rx ry q
 rcases q with q | q
 ·exact h pins s σ H x y v u Q I rx ry q
 ·exact h' pins s σ H x y v u Q I rx ry q
theorem d9 (b:Expr) {op:CmpOp} (h:op≠.In:=by decide) (h2:op≠.NotIn:=by decide):behindInMarks op b=false:=by
 have e1:(op==CmpOp.In)=false:=by cases op <;> first | rfl | exact absurd rfl h
 have e2:(op==CmpOp.NotIn)=false:=by cases op <;> first | rfl | exact absurd rfl h2
 cases b <;> simp [behindInMarks,e1,e2]
theorem QF {op:CmpOp} {r:R2} (ho:jQ X (compareOp op) r) (ha:PE X a ta) (hb:PE X b tb) (hm:behindInMarks op b=false):PE X (.Compare a [op] [b] pos) (Xj r ta tb):=by
 intro pins s σ H Q I h
 exact wpAny_Compare1 (U9 ha hb I h fun v u s2 x y H2 I2 rx ry q=>ho pins s2 σ H2 x y v u Q I2 rx ry q) hm
def Mg (t:TE):TT:=fun σ H Q=>t σ H fun x H'=>∃k,x=.bl k∧Q k H'
theorem QG {op:CmpOp} {r:R2} (ho:jQ X (compareOp op) r) (ha:PE X a ta) (hb:PE X b tb) (hm:behindInMarks op b=false):PT X (.Compare a [op] [b] pos) (Mg (Xj r ta tb)):=by
 intro pins s σ H Q I h
 refine wpAny_isTrue_Compare1 (eZ (ha pins s σ H _ I h) fun v s1 ⟨x,H1,I1,r1,q1⟩=>eZ (hb pins s1 σ H1 _ I1 q1) fun u s2 ⟨y,H2,I2,r2,q2⟩=>
  eZ (ho pins s2 σ H2 x y v u _ I2 r1 r2 q2) fun c s3 ⟨z,H3,I3,r3,k,e,q3⟩=>?_) hm
 subst e
 cases r3
 exact wpAny_truthy_bool ⟨H3,I3,q3⟩
def Mh (r r':R2) (ta tb tc:TE):TE:=fun σ H Q=>ta σ H fun x H1=>tb σ H1 fun y H2=>r x y H2 fun z H3=>∃k,z=.bl k∧
 (if k=true then tc σ H3 fun w' H4=>r' y w' H4 Q else Q (.bl false) H3)
theorem Mi {op op':CmpOp} {r r':R2} (ho:jQ X (compareOp op) r) (ho':jQ X (compareOp op') r') (ha:PE X a ta) (hb:PE X b tb) (hc:PE X c tc)
  (hm:lastMarks [op,op'] [b,c]=false:=by with_unfolding_all rfl):PT X (.Compare a [op,op'] [b,c] pos) (Mg (Mh r r' ta tb tc)):=by
 intro pins s σ H Q I h
 refine isTrue_chain (eZ (ha pins s σ H _ I h) fun v s1 ⟨x,H1,I1,r1,q1⟩=>test_link (eZ (hb pins s1 σ H1 _ I1 q1) fun u s2 ⟨y,H2,I2,r2,q2⟩=>
  eZ (ho pins s2 σ H2 x y v u _ I2 r1 r2 q2) fun d s3 ⟨z,H3,I3,r3,k,e,q3⟩=>?_)) hm
 subst e
 cases r3
 refine wpAny_truthy_bool ?_
 cases k with
 | false=>
  obtain ⟨k',e',q'⟩:=q3
  cases e'
  exact ite_ff ⟨H3,I3,q'⟩
 | true=>
  refine ite_tt (test_last (eZ (hc pins s3 σ H3 _ I3 q3) fun w' s4 ⟨z',H4,I4,r4,q4⟩=>eZ (ho' pins s4 σ H4 y z' u w' _ I4 r2 r4 q4) fun d' s5 ⟨z2,H5,I5,r5,k2,e2,q5⟩=>?_))
  subst e2
  cases r5
  exact wpAny_truthy_bool ⟨H5,I5,q5⟩
def Ve (K:PySem.W.Frag) (x:V) (H:Hp) (k:Bool):Prop:=
 match x with
 | .non=>k=false
 | .bl b=>k=b
 | .int i=>k=(i != 0)
 | .str y=>y.length≤sizeLine∧k=((y.length:Int) != 0)
 | .JR y=>y.size≤sizeLine∧k=((y.size:Int) != 0)
 | .ref p=>(∃xs,dW K H p xs∧k=!xs.isEmpty)∨(∃xs,jz K H p xs∧k=!xs.isEmpty)∨∃kvs,H p=some (.dK kvs)∧k=!kvs.isEmpty
 | _=>False
theorem Fw {κ:Type} {kvs:List (κ×V)} {vs:List (κ×Value)} (r:KV kvs vs):(!vs.isEmpty)=!kvs.isEmpty:=by
 cases r <;> rfl
theorem vU {xs:List V} {its:List Value} (r:Vals xs its):(!its.toArray.isEmpty)=!xs.isEmpty:=by
 cases r <;> simp
theorem qC:(sizeLine:Nat) < 2 ^ 63:=by rw [sizeLine_eq]; decide
theorem Vf:ZR X (fun x H Q=>∃k,Ve X.K x H k∧Q k H):=by
 intro pins s σ H x v Q I rx h
 obtain ⟨k,e,q⟩:=h
 have hl:=qC
 have hs:sizeLine=16777216:=sizeLine_eq
 cases x with
 | non=>
  cases rx
  have e':k=false:=e
  subst e'
  exact truthy_none ⟨H,I,q⟩
 | bl b=>
  cases rx
  have e':k=b:=e
  subst e'
  exact wpAny_truthy_bool ⟨H,I,q⟩
 | int i=>
  obtain ⟨t,rfl⟩:=rx
  have e':k=(i != 0):=e
  subst e'
  exact PySem.P.truthy_int ⟨H,I,q⟩
 | str y=>
  obtain ⟨t,rfl⟩:=rx
  obtain ⟨hy,e'⟩:y.length≤sizeLine∧k=((y.length:Int) != 0):=e
  subst e'
  exact PySem.P.truthy_str (by omega) ⟨H,I.tok _,q⟩
 | JR y=>
  obtain ⟨t,rfl⟩:=rx
  obtain ⟨hy,e'⟩:y.size≤sizeLine∧k=((y.size:Int) != 0):=e
  subst e'
  exact PySem.W.truthy_bytes (by omega) ⟨H,I.tok _,q⟩
 | ref p=>
  cases rx
  have e':(∃xs,dW X.K H p xs∧k=!xs.isEmpty)∨(∃xs,jz X.K H p xs∧k=!xs.isEmpty)∨∃kvs,H p=some (.dK kvs)∧k=!kvs.isEmpty:=e
  rcases e' with ⟨xs,hx,e'⟩ | ⟨xs,hx,e'⟩ | ⟨kvs,hx,e'⟩
  ·subst e'
   obtain ⟨its,r,pl,hz⟩:=I.list hx
   have hlen:=r.length
   exact wpAny_truthy_list pl.isList (by simp only [List.size_toArray]; omega) ⟨H,I.tok _,by rw [vU r]; exact q⟩
  ·subst e'
   obtain ⟨its,r,pl,hz⟩:=I.tuple hx
   have hlen:=r.length
   exact truthy_tuple pl (by simp only [List.size_toArray]; omega) ⟨H,I.tok _,by rw [vU r]; exact q⟩
  ·subst e'
   obtain ⟨hz,hS,vs,r,m⟩:kvs.length≤sizeLine∧(p==sysModules)=false∧∃vs,KV kvs vs∧s.heap.DictOf (dJ X.prog X.w) p vs:=I.hok p _ hx
   have hlen:kvs.length=vs.length:=Paired.length r
   exact wpAny_truthy_dict hS m (by omega) ⟨H,I.tok _,by rw [Fw r]; exact q⟩
 | _=>exact (show False from e).elim
theorem Mj (ha:PE X a ta) (he:∀whole,isTrue a X.env whole=(do let v ←whole; standAt a.pos; holding [v] (truthy v))):
  PT X a (fun σ H Q=>ta σ H fun x H'=>∃k,Ve X.K x H' k∧Q k H'):=by
 intro pins s σ H Q I h
 exact isTrue_plain (eZ (ha pins s σ H _ I h) fun v s1 ⟨x,H1,I1,r1,q1⟩=>Vf pins s1 σ H1 x v Q I1 r1 q1) (he _)
theorem FJ:jQ X (binaryOp .Add) (fun x y H Q=>∃i j,x=.str i∧y=.str j∧i.length + j.length≤sizeLine∧Q (.str (i++j)) H):=by
 intro pins s σ H x y v u Q I rx ry h
 obtain ⟨i,j,rfl,rfl,hz,q⟩:=h
 obtain ⟨t,rfl⟩:=rx
 obtain ⟨t',rfl⟩:=ry
 exact add_str (fun t' tk=>⟨.str (i++j),H,I.tok _,⟨_,rfl⟩,q⟩) hz
theorem vals1 {x:V} {us:List Value} (r:Vals [x] us):∃u,us=[u]∧RelV x u:=by
 cases r with
 | cons r1 r2=>cases r2; exact ⟨_,rfl,r1⟩
theorem vals2 {x y:V} {us:List Value} (r:Vals [x,y] us):∃u w',us=[u,w']∧RelV x u∧RelV y w':=by
 cases r with
 | cons r1 r2=>
  cases r2 with
  | cons r3 r4=>cases r4; exact ⟨_,_,rfl,r1,r3⟩
theorem Cu:dF X (.builtin "abs") (fun xs H Q=>∃i,xs=[.int i]∧Q (.int (if i < 0 then -i else i)) H):=by
 intro pins s σ H xs us Q I r h
 obtain ⟨i,rfl,q⟩:=h
 obtain ⟨u,rfl,t,rfl⟩:=vals1 r
 exact call_abs_int fun u tk=>⟨.int (if i < 0 then -i else i),H,I.tok _,⟨_,rfl⟩,q⟩
theorem J1 (hc:X.calm=true):dF X (.builtin "max") (fun xs H Q=>∃i j,xs=[.int i,.int j]∧Q (.int (if j > i then j else i)) H):=by
 intro pins s σ H xs us Q I r h
 obtain ⟨i,j,rfl,q⟩:=h
 obtain ⟨u,w',rfl,⟨t,rfl⟩,⟨t',rfl⟩⟩:=vals2 r
 refine max_two_ints (I.ok.hd hc) fun h' tk k=>⟨_,H,I.kept k,?_,q⟩
 by_cases hj:j > i
 ·rw [if_pos hj,if_pos hj]; exact ⟨_,rfl⟩
 ·rw [if_neg hj,if_neg hj]; exact ⟨_,rfl⟩
theorem J2 (hc:X.calm=true):dF X (.builtin "min") (fun xs H Q=>∃i j,xs=[.int i,.int j]∧Q (.int (if j < i then j else i)) H):=by
 intro pins s σ H xs us Q I r h
 obtain ⟨i,j,rfl,q⟩:=h
 obtain ⟨u,w',rfl,⟨t,rfl⟩,⟨t',rfl⟩⟩:=vals2 r
 refine min_two_ints (I.ok.hd hc) fun h' tk k=>⟨_,H,I.kept k,?_,q⟩
 by_cases hj:j < i
 ·rw [if_pos hj,if_pos hj]; exact ⟨_,rfl⟩
 ·rw [if_neg hj,if_neg hj]; exact ⟨_,rfl⟩
theorem J3:dF X (.type "int") (fun xs H Q=>(∃i,xs=[.int i]∧Q (.int i) H)∨∃k,xs=[.bl k]∧Q (.int (if k then 1 else 0)) H):=by
 intro pins s σ H xs us Q I r h
 rcases h with ⟨i,rfl,q⟩ | ⟨k,rfl,q⟩
 ·obtain ⟨u,rfl,t,rfl⟩:=vals1 r
  exact call_int_int ⟨.int i,H,I,⟨_,rfl⟩,q⟩
 ·obtain ⟨u,rfl,r1⟩:=vals1 r
  cases r1
  exact call_int_bool ⟨.int (if k then 1 else 0),H,I.tok _,⟨_,rfl⟩,q⟩
end
end L2
namespace L2
open PySem PySem.Spec PyProof.Rows
structure Vg (h:Heap) (x dx C:Addr) (mA:Str→Option Value):Prop where
 obj:h.get? x=some (PySem.W.instObj C dx)
 ns:h.Ns1 dx mA
 ne:dx≠x
theorem J4 {h:Heap} {dx:Addr} {mA:Str→Option Value} (n:h.Ns1 dx mA):∃od,h.get? dx=some od∧∀name,PySem.W.lookIn name od=some (mA name):=by
 obtain ⟨o,es,ep,ho,hd,hk,_,hm⟩:=n
 refine ⟨o,ho,fun name=>?_⟩
 have e:=hm name
 unfold nsFind findBy at e
 rw [←Array.find?_toList] at e
 unfold PySem.W.lookIn
 rw [hd]
 dsimp only
 split
 ·rename_i y q
  rw [q] at e
  exact congrArg some e
 ·rename_i q
  rw [q] at e
  have a:es.toList.any (·.refKey)=false:=by
   rw [List.any_eq_false]
   intro y hy
   obtain ⟨z,t,hkey⟩:=hk y (Array.mem_toList_iff.mp hy)
   simp [DictEntry.refKey,hkey]
  have a':¬es.toList.any (·.refKey)=true:=by rw [a]; exact Bool.false_ne_true
  rw [if_neg a']
  exact congrArg some e
theorem Vg.look {h:Heap} {x dx C:Addr} {mA:Str→Option Value} (I:Vg h x dx C mA):∃od,PySem.W.InstAt h x (PySem.W.instObj C dx) C (some od)∧∀name,PySem.W.lookIn name od=some (mA name):=
 let ⟨od,ho,hl⟩:=J4 I.ns
 ⟨od,⟨I.obj,rfl,rfl,ho⟩,hl⟩
section
variable {prog:Program} {w:World} {A:Around} {E:Value→Shared→Prop} {s:Shared} {K:PySem.W.Frag} {x dx C f:Addr} {mA:Str→Option Value} {name:Str} {v:Value}
end
theorem tL.some_of {v:V} {o:Option Value} (r:tL (some v) o):∃u,o=some u∧RelV v u:=by
 cases o with
 | none=>exact (show False from r).elim
 | some u=>exact ⟨u,rfl,r⟩
section
variable {P:Program} {w:World} {H H':Hp} {h h':Heap} {a C dx:Addr} {fs fs':List (Str×V)}
theorem HX (hok:rm P w H h) (e:H a=some (.ins C dx fs)):∃mA,Vg h a dx C mA∧(∀f,tL (fs.lookup f) (mA f))∧PySem.Within mA (fs.map (·.1))∧fs.length≤1000∧H dx=some (.own a):=by
 obtain ⟨d,z,ne,ob,mA,n,r,q⟩:=(show cF P w H h a (.ins C dx fs) from hok a _ e)
 exact ⟨mA,⟨ob,n,ne⟩,r,q,z,d⟩
end
structure ZS (K:PySem.W.Frag) (C:Addr):Prop where
 pg:PySem.W.plainGet K C Str.empty=true
 hd:PySem.W.hasDictIn K C=true
 po:PySem.W.plainOver K C=true
 sa:PySem.W.findIn K (.ref C) "__setattr__"=some (some (.builtin "object.__setattr__"))
theorem ZS.get {K:PySem.W.Frag} {C:Addr} (c:ZS K C) (f:Str):PySem.W.plainGet K C f=true:=c.pg
def Ml (K:PySem.W.Frag) (C:Addr) (f:Str):Prop:=PySem.W.findIn K (.ref C) f=some none
theorem Ml.taker {K:PySem.W.Frag} {C:Addr} {f:Str} (n:Ml K C f):PySem.W.takerIn K C f=some none:=by
 unfold PySem.W.takerIn
 rw [show PySem.W.findIn K (.ref C) f=some none from n]
 rfl
structure Con (K:PySem.W.Frag) (C:Addr) (f:Str) (v:V) (u:Value):Prop where
 at_:PySem.W.findIn K (.ref C) f=some (some u)
 rel:RelV v u
 get:PySem.W.specialIn K u "__get__"=some none
 cp:PySem.W.copiedNames.contains f=false
structure Meth (K:PySem.W.Frag) (C:Addr) (m:Str) (f:Addr):Prop where
 at_:PySem.W.findIn K (.ref C) m=some (some (.ref f))
 fn:PySem.W.isFn K (.ref f)=true
 kp:PySem.W.keepIn K (.ref f)=true
section
variable {X:Cx} {pins:List (Addr×Obj)} {σ:St} {H:Hp} {s:Shared} {a C dx:Addr} {fs:List (Str×V)} {f:Str} {v:V} {A:Around} {E:Value→Shared→Prop}
theorem Inv.made (I:Inv X pins σ H s):Inv X pins σ (upd (upd H s.heap.objs.size (.own (s.heap.objs.size + 1))) (s.heap.objs.size + 1) (.ins C s.heap.objs.size []))
  { s with heap:=(s.heap.push PySem.W.emptyDict).push (PySem.W.instObj C s.heap.objs.size) }:=by
 have e1:(s.heap.push PySem.W.emptyDict).get? s.heap.objs.size=some PySem.W.emptyDict:=Heap.get?_push_size s.heap rfl
 have e2:((s.heap.push PySem.W.emptyDict).push (PySem.W.instObj C s.heap.objs.size)).get? (s.heap.objs.size + 1)=some (PySem.W.instObj C s.heap.objs.size):=by
  have:=Heap.get?_push_size (s.heap.push PySem.W.emptyDict) (o:=PySem.W.instObj C s.heap.objs.size) rfl
  rwa [Heap.size_push] at this
 have e3:(s.heap.push PySem.W.emptyDict).Ns s.heap.objs.size (fun _=>none):=⟨PySem.W.emptyDict,#[],_,e1,rfl,(fun e he=>absurd he (by simp)),fun _=>rfl⟩
 have I1:=I.laid (a:=s.heap.objs.size) (o:=.own (s.heap.objs.size + 1)) (h':=s.heap.push PySem.W.emptyDict) (t':=s.toks) (fun b u q=>Heap.get?_push_of_some _ q) (Nat.le_refl _) ⟨_,e1⟩
 refine I1.laid (a:=s.heap.objs.size + 1) (o:=.ins C s.heap.objs.size []) (t':=s.toks) (fun b u q=>Heap.get?_push_of_some _ q) (Nat.le_of_eq (Heap.size_push _ _)) ?_
 have ne:s.heap.objs.size≠s.heap.objs.size + 1:=Nat.ne_of_lt (Nat.lt_succ_self _)
 refine ⟨by rw [aY ne,aX],Nat.zero_le _,ne,e2,fun _=>none,(Heap.Ns1.of_empty e3).at fun o q=>Heap.get?_push_of_some _ q,fun _=>True.intro,fun y hy=>absurd rfl hy⟩
end
section
variable {X:Cx} {o e value:Expr} {f:Str} {pos pos' tpos:Pos} {ta tv:TE}
end
section
variable {X:Cx} {pins:List (Addr×Obj)} {σ:St} {H:Hp} {s:Shared} {A:Around} {E:Value→Shared→Prop} {Q:Value→Shared→Prop} {c:Value} {b:Bool}
inductive oY (K:PySem.W.Frag) (H:Hp):V→Value→Prop where
 | non:oY K H .non (.type "NoneType")
 | bl (x:Bool):oY K H (.bl x) (.type "bool")
 | int (i:Int):oY K H (.int i) (.type "int")
 | str (x:Str):oY K H (.str x) (.type "str")
 | flt (x:UInt64):oY K H (.flt x) (.type "float")
 | lst {a:Addr} {xs:List V} (e:H a=some (.lst xs)):oY K H (.ref a) (.type "list")
 | Cj {a:Addr} {o:Obj} {xs:List V} (e:H a=some (.Cj o (.lst xs))):oY K H (.ref a) (.type "list")
 | tup {a:Addr} {xs:List V} (e:H a=some (.tup xs)):oY K H (.ref a) (.type "tuple")
 | dK {a:Addr} {kvs:List (Key×V)} (e:H a=some (.dK kvs)):oY K H (.ref a) (.type "dict")
 | dT {a:Addr} {kvs:List (List Key×V)} (e:H a=some (.dT kvs)):oY K H (.ref a) (.type "dict")
 | ins {a C dx:Addr} {fs:List (Str×V)} (e:H a=some (.ins C dx fs)) (cl:ZS K C) (ha:PySem.W.findIn K (.ref C) "__class__"=some (some (.builtin "object.__class__")))
   (hn:PySem.W.specialIn K (.builtin "object.__class__") "__get__"=some (some (.builtin "getset_descriptor.__get__"))) (htk:PySem.W.takesIn K (.builtin "object.__class__")=some true)
   (hm:PySem.W.mroIn K C (.type "object")=some true):oY K H (.ref a) (.ref C)
theorem J5 {x:V} {u t:Value} (I:Inv X pins σ H s) (rx:RelV x u) (ty:oY X.K H x t) (e:PySem.W.kitOne X.K t c=some b) (h:∀tk,Q (.bool b) { s with toks:=tk }):
  wpAny (model X.prog X.w) A (call (.builtin "isinstance") [u,c]) Q E s:=by
 cases ty with
 | non=>cases (show u=Value.none from rx); exact PySem.W.kia_one PySem.W.kitx_none I.tK True.intro e (fun z=>nomatch z) h
 | bl y=>cases (show u=Value.bool y from rx); exact PySem.W.kia_one PySem.W.kitx_bool I.tK True.intro e (fun z=>nomatch z) h
 | int i=>obtain ⟨t,q⟩:=(show ∃t,u=Value.int i t from rx); cases q; exact PySem.W.kia_one PySem.W.kitx_int I.tK True.intro e (fun z=>nomatch z) h
 | str y=>obtain ⟨t,q⟩:=(show ∃t,u=Value.str y t from rx); cases q; exact PySem.W.kia_one PySem.W.kitx_str I.tK True.intro e (fun z=>nomatch z) h
 | flt y=>obtain ⟨t,q⟩:=(show ∃t,u=Value.float y t from rx); cases q; exact PySem.W.kia_one PySem.W.kitx_float I.tK True.intro e (fun z=>nomatch z) h
 | @lst a xs ea=>
  cases (show u=Value.ref a from rx)
  obtain ⟨_,_,n,_,h1⟩:=(show cF X.prog X.w H s.heap a (.lst xs) from I.hok a _ ea)
  exact PySem.W.kia_one PySem.W.kitx_list I.tK ⟨_,h1,rfl⟩ e (fun z=>nomatch z) h
 | @Cj a ob xs ea=>
  cases (show u=Value.ref a from rx)
  obtain ⟨_,_,_,n,_,h1⟩:=(show cF X.prog X.w H s.heap a (.Cj ob (.lst xs)) from I.hok a _ ea)
  exact PySem.W.kia_one PySem.W.kitx_list I.tK ⟨_,h1,rfl⟩ e (fun z=>nomatch z) h
 | @tup a xs ea=>
  cases (show u=Value.ref a from rx)
  obtain ⟨_,_,_,p⟩:=(show cF X.prog X.w H s.heap a (.tup xs) from I.hok a _ ea)
  obtain ⟨o,h1,h2,_⟩:=p
  exact PySem.W.kia_one PySem.W.kitx_tuple I.tK ⟨o,h1,h2⟩ e (fun z=>nomatch z) h
 | @dK a kvs ea=>
  cases (show u=Value.ref a from rx)
  obtain ⟨_,_,vs,_,p⟩:=(show cF X.prog X.w H s.heap a (.dK kvs) from I.hok a _ ea)
  obtain ⟨o,es,ep,h1,h2,_⟩:=p
  exact PySem.W.kia_one PySem.W.kitx_dict I.tK ⟨o,h1,h2.1⟩ e (fun z=>nomatch z) h
 | @dT a kvs ea=>
  cases (show u=Value.ref a from rx)
  obtain ⟨_,_,xs,_,o,es,ep,h1,h2,_⟩:=(show cF X.prog X.w H s.heap a (.dT kvs) from I.hok a _ ea)
  exact PySem.W.kia_one PySem.W.kitx_dict I.tK ⟨o,h1,h2.1⟩ e (fun z=>nomatch z) h
 | @ins a C dx fs ea cl ha hn htk hm=>
  cases (show u=Value.ref a from rx)
  obtain ⟨mA,O,_⟩:=HX I.hok ea
  obtain ⟨od,J,_⟩:=O.look
  exact PySem.W.kia_one (PySem.W.kitx_own (cl.get _) cl.hd ha hn htk hm) I.tK J e (fun z=>nomatch z) h
end
end L2
namespace L2
open PySem PySem.Spec PyProof.Rows
structure jh (k:Nat) (A:Around):Prop where
 hd:A.handled=none
 dp:A.depth + 3 * k + 5 < recursionLimit
 un:A.units + 16 * k + 200 < cLine
 gd:A.guards=some []
theorem jh.mono {j k:Nat} {A:Around} (r:jh k A) (h:j≤k):jh j A:=⟨r.hd,by have:=r.dp; omega,by have:=r.un; omega,r.gd⟩
theorem jh.deeper {k:Nat} {A:Around} (r:jh (k + 1) A) (env:Env):jh k (A.deeper env):=
 ⟨r.hd,by have:=r.dp; show A.depth + 1 + 3 * k + 5 < _; omega,by have:=r.un; show A.units + 3 + 16 * k + 200 < _; omega,r.gd⟩
theorem jh.in1 {k:Nat} {A:Around} (r:jh (k + 1) A):jh k A.in1:=
 ⟨r.hd,by have:=r.dp; show A.depth + 3 * k + 5 < _; omega,by have:=r.un; show A.units + 1 + 16 * k + 200 < _; omega,r.gd⟩
theorem jh.depth {k:Nat} {A:Around} (r:jh k A):A.depth < recursionLimit:=by have:=r.dp; omega
theorem jh.units {k:Nat} {A:Around} (r:jh k A):A.units + 64 < cLine:=by have:=r.un; omega
theorem jh.FP {k:Nat} {A:Around} (r:jh k A):A.units < cLine:=by have:=r.un; omega
def ZV:TA:=fun _ H Q=>Q [] H
def Xw (ta:TE) (tr:TA):TA:=fun σ H Q=>ta σ H fun x H1=>tr σ H1 fun xs H2=>Q (x::xs) H2
section
variable {X:Cx} {e:Expr} {es:List Expr} {te:TE} {t:TA} {pos:Pos}
theorem lY:PA X [] ZV:=fun _ _ _ _ H Q I h=>Calls.spliced_nil ⟨[],H,I,.nil,h⟩
theorem gw (ha:PE X e te) (hr:PA X es t) (hs:starEach (e::es) X.env=(false,eval e X.env)::starEach es X.env:=by rfl):PA X (e::es) (Xw te t):=by
 intro pos pins s σ H Q I h
 rw [hs]
 show wpAny _ _ (spliced ((false,eval e X.env)::backTo pos (starEach es X.env))) _ _ s
 refine Calls.spliced_cons (eZ (ha pins s σ H _ I h) fun u s1 ⟨x,H1,I1,r1,q1⟩=>?_)
 exact eZ (hr pos pins s1 σ H1 _ I1 q1) fun us s2 ⟨xs,H2,I2,r2,q2⟩=>⟨x::xs,H2,I2,.cons r1 r2,q2⟩
def ZW (t:TA):TE:=fun σ H Q=>t σ H fun xs H1=>xs.length≤sizeLine∧∀p,H1 p=none→Q (.ref p) (upd H1 p (.tup xs))
def ZX (t:TA):TE:=fun σ H Q=>t σ H fun xs H1=>xs.length≤sizeLine∧∀p,H1 p=none→Q (.ref p) (upd H1 p (.lst xs))
theorem FQ {x1} (h:PA X es t):PE X (.Tuple es x1 pos) (ZW t):=by
 intro pins s σ H Q I hq
 refine wpAny_Tuple_spliced (eZ (h pos pins s σ H _ I hq) fun us s1 ⟨xs,H1,I1,r,z,q⟩=>⟨by rw [←r.length]; exact z,?_⟩)
 have hf:H1 s1.heap.objs.size=none:=I1.hok.fresh (Nat.le_refl _)
 refine ⟨.ref s1.heap.objs.size,upd H1 s1.heap.objs.size (.tup xs),I1.laid (t':=s1.toks) (fun b u e=>Heap.get?_push_of_some _ e) (Nat.le_refl _) ?_,rfl,q _ hf⟩
 exact ⟨z,us,r,⟨_,Heap.get?_push_size _ rfl,rfl,_,rfl⟩⟩
theorem Vh (h:PA X es t):PE X (.List es pos) (ZX t):=by
 intro pins s σ H Q I hq
 refine wpAny_List_spliced (eZ (h pos pins s σ H _ I hq) fun us s1 ⟨xs,H1,I1,r,z,q⟩=>⟨by rw [←r.length]; exact z,?_⟩)
 have hf:H1 s1.heap.objs.size=none:=I1.hok.fresh (Nat.le_refl _)
 refine ⟨.ref s1.heap.objs.size,upd H1 s1.heap.objs.size (.lst xs),I1.laid (t':=s1.toks) (fun b u e=>Heap.get?_push_of_some _ e) (Nat.le_refl _) ?_,rfl,q _ hf⟩
 exact ⟨z,us,0,r,Heap.get?_push_size _ rfl⟩
end
abbrev Sp:=List V→Hp→VK→XK→Prop
abbrev J6:=List Env→Hp→Shared→XK→Value→Shared→Prop
structure FW (P:Program) (w:World) (K:PySem.W.Frag) (mg:Str→Option Value) (base:Heap) (A:Around) (outer:List Env) (s:Shared) (H:Hp):Prop where
 frames:A.frames=some outer
 mod:Mod K mg base
 bs:∀b o,base.get? b=some o→s.heap.get? b=some o∧H b=none
 Ql:base.objs.size≤s.heap.objs.size
 uV:s.heap.FunFrames base outer
 Uw:∀b∈frs outer,H b=none
 hok:rm P w H s.heap
 bare:AllBare s.gens
def CE (outer:List Env) (P:Program) (w:World) (H:Hp) (s:Shared) (Q:VK) (u:Value) (s':Shared):Prop:=
 ∃v H',s'.os=s.os∧AllBare s'.gens∧Un (frs outer) [] H H' s.heap s'.heap∧rm P w H' s'.heap∧RelV v u∧Q v H'
def CR (CX:J6) (outer:List Env) (P:Program) (w:World) (H:Hp) (s:Shared) (Q:VK) (E:XK) (r:Result) (s':Shared):Prop:=
 match r with
 | .ok (.ret u)=>CE outer P w H s Q u s'
 | .ok _=>False
 | .error e=>CX outer H s E e s'
structure gJ (P:Program) (w:World) (K:PySem.W.Frag) (mg:Str→Option Value) (base:Heap) (CX:J6) (k:Nat) (f:Addr) (fd:FuncData) (ps:List Str) (sp:Sp):Prop where
 len:∀vs H Q E,sp vs H Q E→vs.length=ps.length
 run:∀(A:Around) (outer:List Env) (s:Shared) (H:Hp) (args:Args) (us:List Value) (vs:List V) (Q:VK) (E:XK),jh k A→FW P w K mg base A outer s H→BindsTo s fd args (ps.zip us)→Vals vs us→sp vs H Q E→
  codeAny (model P w) A (.call (.ref f) args) (CR CX outer P w H s Q E) s
theorem gJ.mono {P:Program} {w:World} {K:PySem.W.Frag} {mg:Str→Option Value} {base:Heap} {CX:J6} {j k:Nat} {f:Addr} {fd:FuncData} {ps:List Str} {sp:Sp} (F:gJ P w K mg base CX j f fd ps sp) (h:j≤k):
  gJ P w K mg base CX k f fd ps sp:=⟨F.len,fun A outer s H args us vs Q E hr=>F.run A outer s H args us vs Q E (hr.mono h)⟩
theorem gJ.imp {P:Program} {w:World} {K:PySem.W.Frag} {mg:Str→Option Value} {base:Heap} {CX:J6} {k:Nat} {f:Addr} {fd:FuncData} {ps:List Str} {sp sp':Sp} (F:gJ P w K mg base CX k f fd ps sp)
  (h:∀vs H Q E,sp' vs H Q E→sp vs H Q E):gJ P w K mg base CX k f fd ps sp':=
 ⟨fun vs H Q E q=>F.len vs H Q E (h _ _ _ _ q),fun A outer s H args us vs Q E hr he hb hv hs=>F.run A outer s H args us vs Q E hr he hb hv (h _ _ _ _ hs)⟩
theorem FW.in1 {P:Program} {w:World} {K:PySem.W.Frag} {mg:Str→Option Value} {base:Heap} {A:Around} {outer:List Env} {s:Shared} {H:Hp} (e:FW P w K mg base A outer s H):
  FW P w K mg base A.in1 outer s H:=⟨e.frames,e.mod,e.bs,e.Ql,e.uV,e.Uw,e.hok,e.bare⟩
section
variable {X:Cx} {pins:List (Addr×Obj)} {σ:St} {H:Hp} {s s':Shared}
theorem Inv.env0 (I:Inv X pins σ H s):FW X.prog X.w X.K X.mg X.base X.A X.stack s H:=
 ⟨I.ok.frames,I.ok.mod,I.bs,Nat.le_trans I.ok.Ql I.sz,I.stack,I.HN,I.hok,I.bare⟩
theorem Inv.after {Q:VK} {u:Value} (I:Inv X pins σ H s) (h:CE X.stack X.prog X.w H s Q u s'):EP X pins σ Q u s':=by
 obtain ⟨v,H',os,bare,un,hok,r,q⟩:=h
 obtain ⟨hh,g,d,t,os'⟩:=s'
 obtain rfl:os'=s.os:=os
 exact ⟨v,H',I.call (h':=hh) (g':=g) (d':=d) (t':=t) (ch:=[]) un hok bare (fun b z=>absurd z (by simp)),r,q⟩
end
def Mm (sp:Sp) (Tr:List V) (E:XK) (t:TA):TE:=fun σ H Q=>t σ H fun vs H1=>sp (vs++Tr) H1 Q E
def Binds (K:PySem.W.Frag) (fd:FuncData) (ps:List Str) (ds:List Value):Prop:=
 ∀(s:Shared) (us:List Value),K.In s.heap→(us++ds).length=ps.length→BindsTo s fd ⟨us,[]⟩ (ps.zip (us++ds))
theorem Binds.all {K:PySem.W.Frag} {fd:FuncData} {ps:List Str} (h:∀us:List Value,us.length=ps.length→bindArgs fd ⟨us,[]⟩=pure (ps.zip us)):Binds K fd ps []:=fun s us _ hl=>by
 rw [List.append_nil] at hl ⊢
 exact .of_eq (h us hl)
def Passes (CX:J6) (X:Cx) (E:XK):Prop:=∀(pins:List (Addr×Obj)) (σ:St) (H:Hp) (s:Shared) (e:Value) (s':Shared),Inv X pins σ H s→CX X.stack H s E e s'→X.xe e s'
section
variable {X:Cx} {CX:J6} {k:Nat} {f C:Addr} {fd:FuncData} {ps:List Str} {sp:Sp} {Tr:List V} {ds:List Value} {E:XK} {x m:Str} {p pos apos:Pos} {e o:Expr} {es:List Expr} {ta:TE} {t:TA}
theorem Vi {pins:List (Addr×Obj)} {σ:St} {H:Hp} {s:Shared} {Q:VK} {us:List Value} {vs:List V} (F:gJ X.prog X.w X.K X.mg X.base CX k f fd ps sp) (hr:jh k X.A) (hb:Binds X.K fd ps ds) (hd:Vals Tr ds) (hx:Passes CX X E)
  (I:Inv X pins σ H s) (r:Vals vs us) (h:sp (vs++Tr) H Q E):wpAny (model X.prog X.w) X.A (call (.ref f) us) (EP X pins σ Q) X.xe s:=by
 have r2:Vals (vs++Tr) (us++ds):=r.append hd
 have hl:(us++ds).length=ps.length:=by rw [←r2.length]; exact F.len _ _ _ _ h
 refine wpAny_call (codeAny_mono (F.run X.A X.stack s H ⟨us,[]⟩ (us++ds) (vs++Tr) Q E hr I.env0 (hb s us I.tK hl) r2 h) fun r s' hq=>?_)
 cases r with
 | error e=>exact hx pins σ H s e s' I hq
 | ok fl=>
  cases fl with
  | ret u=>exact I.after hq
  | next=>exact False.elim hq
  | brk=>exact False.elim hq
  | cont=>exact False.elim hq
theorem QH (F:gJ X.prog X.w X.K X.mg X.base CX k f fd ps sp) (hr:jh k X.A) (hg:Gl X x) (hm:X.mg x=some (.ref f)) (hk:PySem.W.keepIn X.K (.ref f)=true) (hb:Binds X.K fd ps ds) (hd:Vals Tr ds) (hx:Passes CX X E)
  (ha:PA X (e::es) t) (hdb:(x==("__debug__":Str))=false:=by decide) (he:starEach (e::es) X.env=(false,eval e X.env)::starEach es X.env:=by rfl) (hpl:(backTo pos (starEach es X.env)).any (·.1)=false:=by rfl):
  PE X (.Call (.Name x p) (e::es) [] pos) (Mm sp Tr E t):=by
 intro pins s σ H Q I h
 refine wpAny_Call_Name_kw (Qv I hg hm ?_ hdb)
 refine PySem.W.callWith_K (h₀:=X.base) I.ok.mod.Zt hk (eZ (ha pos pins s σ H _ I h) fun us s1 ⟨vs,H1,I1,r,q⟩=>⟨I1.tK,?_⟩) he hpl
 exact Vi F hr hb hd hx I1 r q
structure Mk (K:PySem.W.Frag) (C f:Addr):Prop where
 makes:PySem.W.makesIn K C=true
 init:PySem.W.findIn K (.ref C) "__init__"=some (some (.ref f))
 fn:PySem.W.isFn K (.ref f)=true
 kp:PySem.W.keepIn K (.ref C)=true
end
section
variable {X:Cx} {CX:J6} {k:Nat} {f C:Addr} {fd:FuncData} {ps ks:List Str} {sp:Sp} {E:XK} {x m:Str} {p pos apos kpos:Pos} {e o:Expr} {es:List Expr} {kws:List Keyword} {te ta:TE} {t tk:TA} {nm:Option Str}
structure ZZ (K:PySem.W.Frag) (fd:FuncData) (ps ks:List Str) (g:List Value→List Value→List Value) (gV:List V→List V→List V):Prop where
 to:∀(s:Shared) (us ws:List Value),K.In s.heap→(g us ws).length=ps.length→BindsTo s fd ⟨us,ks.zip ws⟩ (ps.zip (g us ws))
 rel:∀{vs:List V} {us:List Value} {zs:List V} {ws:List Value},Vals vs us→Vals zs ws→Vals (gV vs zs) (g us ws)
variable {g:List Value→List Value→List Value} {gV:List V→List V→List V}
end
structure dw (N P:List Str) (sc:Scope):Prop where
 kind:sc.kind=.function
 co:sc.isCoroutine=false
 gen:sc.isGenerator=false
 nd:N.Nodup
 pre:N.take P.length=P
 par:∀x∈P,sc.names.lookup x=some .local∨sc.names.lookup x=some .cell
 Vj:∀y∈sc.names,y.2≠.free
theorem yQ {kindOf:Str→Option NameKind} {x:Str}:∀{binds:List (Str×Value)} {m:Str→Option Value},(∀v,(x,v)∉binds)→bindL kindOf binds m x=m x
 | [],_,_=>rfl
 | (n,v)::r,m,h=>by
  unfold bindL
  rw [yQ fun w hw=>h w (List.mem_cons_of_mem _ hw)]
  split
  ·have:x≠n:=by rintro rfl; exact h v List.mem_cons_self
   simp [this]
  ·rfl
theorem yR {kindOf:Str→Option NameKind} {x:Str}:∀{binds:List (Str×Value)} {m:Str→Option Value},(∀v,(x,v)∉binds)→bindC kindOf binds m x=m x
 | [],_,_=>rfl
 | (n,v)::r,m,h=>by
  unfold bindC
  rw [yR fun w hw=>h w (List.mem_cons_of_mem _ hw)]
  split
  ·rfl
  ·have:x≠n:=by rintro rfl; exact h v List.mem_cons_self
   simp [this]
theorem yS {kindOf:Str→Option NameKind} {x:Str} {v:Value}:∀{P:List Str} {vs:List Value} {i:Nat} {m:Str→Option Value},P.Nodup→P[i]?=some x→vs[i]?=some v→kindOf x=some .local→
  bindL kindOf (P.zip vs) m x=some v
 | [],_,_,_,_,h,_,_=>by simp at h
 | _::_,[],_,_,_,_,h,_=>by simp at h
 | p::P,w::vs,0,m,nd,h1,h2,hk=>by
  simp at h1 h2; subst h1; subst h2
  show bindL kindOf ((p,w)::P.zip vs) m p=_
  unfold bindL
  rw [yQ fun v hv=>(List.nodup_cons.mp nd).1 (List.of_mem_zip hv).1,if_pos hk]
  simp
 | p::P,w::vs,i + 1,m,nd,h1,h2,hk=>by
  show bindL kindOf ((p,w)::P.zip vs) m x=_
  unfold bindL
  exact yS (i:=i) (List.nodup_cons.mp nd).2 (by simpa using h1) (by simpa using h2) hk
theorem yU {kindOf:Str→Option NameKind} {x:Str} {v:Value}:∀{P:List Str} {vs:List Value} {i:Nat} {m:Str→Option Value},P.Nodup→P[i]?=some x→vs[i]?=some v→kindOf x≠some .local→
  bindC kindOf (P.zip vs) m x=some v
 | [],_,_,_,_,h,_,_=>by simp at h
 | _::_,[],_,_,_,_,h,_=>by simp at h
 | p::P,w::vs,0,m,nd,h1,h2,hk=>by
  simp at h1 h2; subst h1; subst h2
  show bindC kindOf ((p,w)::P.zip vs) m p=_
  unfold bindC
  rw [yR fun v hv=>(List.nodup_cons.mp nd).1 (List.of_mem_zip hv).1,if_neg hk]
  simp
 | p::P,w::vs,i + 1,m,nd,h1,h2,hk=>by
  show bindC kindOf ((p,w)::P.zip vs) m x=_
  unfold bindC
  exact yU (i:=i) (List.nodup_cons.mp nd).2 (by simpa using h1) (by simpa using h2) hk
def start (N:List Str) (vs:List V):St:=vs.map some++List.replicate (N.length - vs.length) none
def FZ (CX:J6) (P:Program) (w:World) (K:PySem.W.Frag) (mg:Str→Option Value) (base:Heap) (N:List Str) (qual:Str) (scope:Scope) (f:Addr) (cd:Value) (A:Around) (outer:List Env) (s:Shared) (H:Hp) (E:XK):Cx where
 prog:=P
 w:=w
 K:=K
 mg:=mg
 base:=base
 A:=A.deeper (envOfC qual scope s.heap.objs.size f cd)
 N:=N
 s₀:=s
 H₀:=H
 env:=envOfC qual scope s.heap.objs.size f cd
 outer:=outer
 stack:=envOfC qual scope s.heap.objs.size f cd::outer
 ex:=[]
 calm:=true
 fn:=fun _=>true
 pn:=[]
 xe:=fun e s'=>wpAny (model P w) (A.deeper (envOfC qual scope s.heap.objs.size f cd)) (leaving (envOfC qual scope s.heap.objs.size f cd) e) (fun _ s''=>CX outer H s E e s'') (fun e' s''=>CX outer H s E e' s'') s'
theorem Cv {sc:Scope} {n:Nat} {x:Str} (h:sc.names.lookup x=some .cell):∃c,(cellsFrom n sc.names []).lookup x=some c:=by
 have q:=PySem.W.cellsFrom_some sc.names n [] (.inl h)
 exact Option.isSome_iff_exists.mp q
theorem J7 {CX:J6} {P:Program} {w:World} {K:PySem.W.Frag} {mg:Str→Option Value} {base:Heap} {N ps:List Str} {qual:Str} {scope:Scope} {f:Addr} {cd:Value} {A:Around} {outer:List Env} {s s1:Shared} {H:Hp} {E:XK} {us:List Value} {vs:List V}
  (S:dw N ps scope) (hd:A.handled=none) (e0:FW P w K mg base A outer s H) (hl:vs.length=ps.length) (r:Vals vs us)
  (x:InCallC s s.heap.objs.size (bindL (envOfC qual scope s.heap.objs.size f cd).kindOf (ps.zip us) fun _=>none) (cellsFrom (s.heap.objs.size + 1) scope.names []) (bindC (envOfC qual scope s.heap.objs.size f cd).kindOf (ps.zip us) fun _=>none) s1):
  Inv (FZ CX P w K mg base N qual scope f cd A outer s H E) [] (start N vs) H s1:=by
 have hpl:ps.length≤N.length:=by have:=congrArg List.length S.pre; rw [List.length_take] at this; omega
 obtain ⟨h1,tk,rfl,hk⟩:=x.done
 have Xx:∀b:Addr,b∉(FZ CX P w K mg base N qual scope f cd A outer s H E).ex:=fun b z=>absurd (show b∈([]:List Addr) from z) (by simp)
 refine ⟨⟨e0.mod,S.kind,rfl,rfl,Nat.le_refl _,fun y z c h1 h2=>?_,fun y hy=>?_,fun y c _ h=>?_,fun _=>hd,Around.frames_deeper e0.frames,.inr ⟨rfl,rfl⟩,fun b z=>absurd z (Xx b),e0.bs,e0.Ql,fun b _ _=>Xx b,fun b z=>absurd z (Xx b),e0.uV,e0.Uw⟩,
  rfl,e0.bare,Un.kept hk,⟨_,x.toInCall.ns,fun i y v h1 h2 h3=>?_⟩,fun y c h=>⟨_,x.cell y c h⟩,e0.hok.fresh (Nat.le_refl _),fun y c h=>?_,fun p hp=>absurd (show p∈([]:List (Addr×Obj)) from hp) (by simp),e0.hok.kept hk,?_⟩
 ·exact name_of_addr x.apart (PySem.mem_of_lookup h1) (PySem.mem_of_lookup h2)
 ·have hy:scope.names.lookup y=some .cell∨scope.names.lookup y=some .free:=hy
  rcases hy with hy | hy
  ·exact Cv hy
  ·exact absurd rfl (S.Vj _ (PySem.mem_of_lookup hy))
 ·exact Nat.le_of_lt (x.above y c (PySem.mem_of_lookup h))
 ·have hi:i < vs.length:=by
   unfold start at h2
   by_cases hi:i < vs.length
   ·exact hi
   ·rw [List.getElem?_append_right (by simpa using hi)] at h2
    rw [List.getElem?_replicate] at h2
    split at h2 <;> cases h2
  have ha:vs[i]?=some v:=by
   unfold start at h2
   rw [List.getElem?_append_left (by simpa using hi),List.getElem?_map] at h2
   cases e:vs[i]? with
   | none=>rw [e] at h2; cases h2
   | some a=>rw [e] at h2; cases h2; rfl
  obtain ⟨u,hu,rv⟩:=r.get ha
  have hp:ps[i]?=some y:=by
   rw [←S.pre,List.getElem?_take_of_lt (by omega)]; exact h1
  have ndP:ps.Nodup:=by rw [←S.pre]; exact S.nd.sublist (List.take_sublist _ _)
  refine ⟨u,rv,?_⟩
  rcases S.par y (List.mem_of_getElem? hp) with k | k
  ·exact .inl ⟨k,yS ndP hp hu k⟩
  ·obtain ⟨c,e⟩:=Cv (n:=s.heap.objs.size + 1) k
   refine .inr ⟨.inl k,c,e,?_⟩
   have q:=x.cell y c e
   rw [yU ndP hp hu (by show scope.names.lookup y≠_; rw [k]; decide)] at q
   exact q
 ·exact e0.hok.fresh (Nat.le_of_lt (x.above y c (PySem.mem_of_lookup h)))
 ·unfold start
  show _=N.length
  rw [List.length_append,List.length_map,List.length_replicate]
  omega
theorem Xy {CX:J6} {P:Program} {w:World} {K:PySem.W.Frag} {mg:Str→Option Value} {base:Heap} {k:Nat} {f:Addr} {name qual:Str} {params:Arguments} {body:List Stmt} {scope:Scope} {dV kV doc pm cdv ct oc:Value} {an od:Option Addr}
  {osl:Array (Option Value)} {N ps:List Str} {sp:Sp} (lk:K.lookup f=some ⟨oc,od,.func (PySem.W.fnOf name qual params body scope dV kV doc pm an cdv ct),osl⟩) (hcd:PySem.W.codeIn K cdv qual=true) (S:dw N ps scope)
  (len:∀vs H Q E,sp vs H Q E→vs.length=ps.length)
  (hbody:∀(A:Around) (outer:List Env) (s:Shared) (H:Hp) (vs:List V) (Q:VK) (E:XK),jh k (A.deeper (envOfC qual scope s.heap.objs.size f cdv))→sp vs H Q E→
   ∃t,uW (FZ CX P w K mg base N qual scope f cdv A outer s H E) body t∧t { nx:=fun _ H'=>Q .non H',rt:=Q } (start N vs) H):
  gJ P w K mg base CX (k + 1) f (PySem.W.fnOf name qual params body scope dV kV doc pm an cdv ct) ps sp:=by
 refine ⟨len,fun A outer s H args us vs Q E hr e0 hb r hsp=>?_⟩
 have hl:=len _ _ _ _ hsp
 have KX:K.In s.heap:=e0.mod.Zt.keeps fun b o e=>(e0.bs b o e).1
 have lim:s.heap.NoLimit:=e0.mod.nolimit.keeps fun b o e=>(e0.bs b o e).1
 have hkind:∀y∈ps.zip us,scope.names.lookup y.1=some .local∨(scope.names.lookup y.1=some .cell∧((cellsFrom (s.heap.objs.size + 1) scope.names []).lookup y.1).isSome=true):=fun ⟨n,v⟩ hy=>by
  rcases S.par n (List.of_mem_zip hy).1 with q | q
  ·exact .inl q
  ·exact .inr ⟨q,PySem.W.cellsFrom_some _ _ _ (.inl q)⟩
 refine codeAny_call_function hr.depth (KX _ _ lk) rfl S.co S.gen rfl (PySem.W.codeRec_of KX hcd) (hb _ _ _ _ ?_)
 refine wpAny_newFunctionEnv_cells S.kind hkind fun env he s1 x=>?_
 subst he
 refine ⟨lim.keeps x.toInCall.keep,codeAny_func ?_⟩
 obtain ⟨t,ht,hq⟩:=hbody A outer s H vs Q E (hr.deeper _) hsp
 have I:Inv (FZ CX P w K mg base N qual scope f cdv A outer s H E) [] (start N vs) H s1:=J7 S hr.hd e0 hl r x
 refine wpAny_mono (ht [] s1 (start N vs) H _ I hq) (fun fl s' hs=>?_) fun e s' hs=>hs
 have fin:∀{σ':St} {H':Hp} {v:V} {u:Value},Inv (FZ CX P w K mg base N qual scope f cdv A outer s H E) [] σ' H' s'→RelV v u→Q v H'→CE outer P w H s Q u s':=
  fun {σ' H' v u} J rv q=>⟨v,H',J.os,J.bare,J.base,J.hok,rv,q⟩
 cases fl with
 | ret u=>
  obtain ⟨v,σ',H',J,rv,q⟩:=hs
  exact fin J rv q
 | next=>
  obtain ⟨σ',H',J,q⟩:=hs
  exact fin (v:=V.non) (u:=Value.none) J rfl q
 | brk=>
  obtain ⟨_,_,_,q⟩:=hs
  exact False.elim q
 | cont=>
  obtain ⟨_,_,_,q⟩:=hs
  exact False.elim q
end L2
namespace L2
open PySem PySem.Spec PyProof.Rows
section
variable {X:Cx} {x:Str} {p pos:Pos} {e:Expr} {es:List Expr} {t:TA} {id T:String} {r:List V→Hp→VK→Prop}
def Z0 (r:List V→Hp→VK→Prop) (t:TA):TE:=fun σ H Q=>t σ H fun vs H1=>r vs H1 Q
theorem rF (hc:dF X (.builtin id) r) (hg:Gl X x) (hm:X.mg x=none) (hv:bootBuiltins x=some (.builtin id)) (ha:PA X (e::es) t) (hn:x≠"__name__":=by decide) (hdb:(x==("__debug__":Str))=false:=by decide)
  (he:starEach (e::es) X.env=(false,eval e X.env)::starEach es X.env:=by rfl) (hpl:(backTo pos (starEach es X.env)).any (·.1)=false:=by rfl):PE X (.Call (.Name x p) (e::es) [] pos) (Z0 r t):=by
 intro pins s σ H Q I h
 refine wpAny_Call_Name_kw (nC I hg hm hv ?_ hn hdb)
 exact PyProof.Rows.callWith_builtin1 (eZ (ha pos pins s σ H _ I h) fun us s1 ⟨vs,H1,I1,r1,q1⟩=>hc pins s1 σ H1 vs us Q I1 r1 q1) he hpl
theorem J8 (hc:dF X (.type T) r) (hg:Gl X x) (hm:X.mg x=none) (hv:bootBuiltins x=some (.type T)) (ha:PA X (e::es) t) (hn:x≠"__name__":=by decide) (hdb:(x==("__debug__":Str))=false:=by decide)
  (he:starEach (e::es) X.env=(false,eval e X.env)::starEach es X.env:=by rfl) (hpl:(backTo pos (starEach es X.env)).any (·.1)=false:=by rfl):PE X (.Call (.Name x p) (e::es) [] pos) (Z0 r t):=by
 intro pins s σ H Q I h
 refine wpAny_Call_Name_kw (nC I hg hm hv ?_ hn hdb)
 exact PyProof.Rows.callWith_type1 (eZ (ha pos pins s σ H _ I h) fun us s1 ⟨vs,H1,I1,r1,q1⟩=>hc pins s1 σ H1 vs us Q I1 r1 q1) he hpl
end
end L2
namespace HT
open PySem PyProof.Rows
section
open PySem.SeqAt
open PySem.AutoSeq1 (wpAny_loadPart')
open PySem.MeetsSeq PySem.MeetsSeq2 PySem.MeetsSeq3
end
section
variable {prog:Program} {w:World} {A:Around} {E:Value→Shared→Prop} {s:Shared}
theorem QJ {t b:Addr} {vs ws:List Value} {Q:Value→Shared→Prop} (ht:IsTup s.heap t vs.toArray) (hb:IsTup s.heap b ws.toArray) (hv:vs≠[])
  (h1:ws=[]→Q (.ref t) s) (h2:ws≠[]→Q (.ref s.heap.objs.size) { s with heap:=s.heap.push { cls:=.type "tuple",data:=.seq (vs++ws).toArray } })
  (hsz:vs.length + ws.length≤sizeLine):wpAny (model prog w) A (binaryOp .Add (.ref t) (.ref b)) Q E s:=by
 obtain ⟨⟨cls,dd,data,sl⟩,ho,hc,n,hd⟩:=id ht
 obtain ⟨⟨cls2,dd2,data2,sl2⟩,ho2,hc2,n2,hd2⟩:=id hb
 simp only at hc hd hc2 hd2
 subst hc hd hc2 hd2
 have e:vs.toArray++ws.toArray=(vs++ws).toArray:=by simp
 by_cases hw:ws=[]
 ·exact concat_meets ⟨_,ho,rfl⟩ ⟨_,ho2,rfl⟩ noFill_tuple_add seq_tuple_add PySem.F.slot_tuple_add PySem.F.entry_tuple_add (PySem.F.args_tuple_add_2 _ _)
   (tuple_addW1 t b vs.toArray ws.toArray n n2 dd dd2 sl sl2 (by simpa using hv) (by simp [hw])) ⟨ho,ho2,h1 hw⟩
 ·refine concat_meets ⟨_,ho,rfl⟩ ⟨_,ho2,rfl⟩ noFill_tuple_add seq_tuple_add PySem.F.slot_tuple_add PySem.F.entry_tuple_add (PySem.F.args_tuple_add_2 _ _)
   (tuple_addW2 t b vs.toArray ws.toArray n n2 dd dd2 sl sl2 (by simpa using hv) (by simpa using hw) (by rw [List.size_toArray,List.size_toArray]; exact hsz)) ⟨ho,ho2,?_⟩
  rw [e]
  exact h2 hw
def gG (n d:Nat):Option Int→Nat
 | none=>d
 | some v=>if v < 0 then (v + (n:Int)).toNat else min v.toNat n
theorem QK (n d k:Nat):gG n d (some (k:Int))=min k n:=by
 show (if (k:Int) < 0 then ((k:Int) + (n:Int)).toNat else min (k:Int).toNat n)=min k n
 rw [if_neg (by omega),Int.toNat_natCast]
theorem Vk (n d:Nat) (hd:d≤n) (o:Option Int):gG n d o≤n:=by
 cases o with
 | none=>exact hd
 | some v=>
  show (if v < 0 then (v + (n:Int)).toNat else min v.toNat n)≤n
  by_cases hv:v < 0
  ·rw [if_pos hv]; omega
  ·rw [if_neg hv]; exact Nat.min_le_right _ _
theorem HY (v:Int) (n d:Nat):(if v < 0 then max (v + (n:Int)) 0 else min v (n:Int))=((gG n d (some v):Nat):Int):=by
 show (if v < 0 then max (v + (n:Int)) 0 else min v (n:Int))=(((if v < 0 then (v + (n:Int)).toNat else min v.toNat n):Nat):Int)
 by_cases hv:v < 0
 ·simp only [if_pos hv]; omega
 ·simp only [if_neg hv]; omega
theorem Ga (lo hi:Option Int) (n:Nat):Builtin.Slice.sliceAdjust lo hi 1 (n:Int)=(((gG n 0 lo:Nat):Int),((gG n n hi:Nat):Int)):=by
 have h1:¬((1:Int) < 0):=by omega
 unfold Builtin.Slice.sliceAdjust
 simp only [h1,if_false]
 refine Prod.ext ?_ ?_
 ·cases lo with
  | none=>rfl
  | some v=>exact HY v n 0
 ·cases hi with
  | none=>rfl
  | some v=>exact HY v n n
theorem Gb (i j:Nat):Builtin.Slice.slicePlaces (i:Int) (j:Int) 1=j - i:=by
 unfold Builtin.Slice.slicePlaces
 have h1:(1:Int) > 0:=by omega
 simp only [h1,if_true,Int.ediv_one]
 split <;> omega
theorem vV {v:Value} {o:Option Int} {Q:Option Int→Shared→Prop} (p:IsPart v o) (h:Q o s):wpAny (model prog w) A (Builtin.Slice.slicePartIndex v) Q E s:=by
 cases p with
 | none=>exact slicePart_none h
 | int i t=>exact slicePart_int h
theorem mK {sl:Addr} {vl vu:Value} {lo hi:Option Int} {n:Nat} {Q:Int×Int×Nat→Shared→Prop} (hs:s.heap.IsSliceOf sl vl vu .none) (pl:IsPart vl lo) (pu:IsPart vu hi)
  (h:Q (((gG n 0 lo:Nat):Int),1,gG n n hi - gG n 0 lo) s):wpAny (model prog w) A (Builtin.Slice.sliceApplied (.ref sl) (pure (n:Int))) Q E s:=by
 obtain ⟨os,hos,hcs,hds⟩:=id hs
 unfold Builtin.Slice.sliceApplied Builtin.Slice.sliceFields
 refine wpAny_bind (wpAny_bind (wpAny_field hos hds (x:=vl) rfl (wpAny_bind (wpAny_field hos hds (x:=vu) rfl (wpAny_bind (wpAny_field hos hds (x:=.none) rfl (wpAny_pure ?_)))))))
 refine wpAny_bind (slicePart_none ?_)
 show wpAny _ _ (if ((1:Int)==0)=true then _ else _) _ _ s
 rw [if_neg (by decide)]
 refine wpAny_bind (vV pl (wpAny_bind (vV pu (wpAny_bind (wpAny_pure ?_)))))
 show wpAny _ _ (match Builtin.Slice.sliceAdjust lo hi 1 (n:Int) with | (lo,hi)=>pure (lo,(1:Int),Builtin.Slice.slicePlaces lo hi 1)) _ _ s
 rw [Ga lo hi n]
 show wpAny _ _ (pure (((gG n 0 lo:Nat):Int),(1:Int),Builtin.Slice.slicePlaces ((gG n 0 lo:Nat):Int) ((gG n n hi:Nat):Int) 1)) _ _ s
 rw [Gb]
 exact wpAny_pure h
theorem Mp (xs:Array Value) (i k:Nat):((List.range k).filterMap fun (m:Nat)=>xs[((i:Int) + (m:Int) * 1).toNat]?).toArray=((xs.toList.drop i).take k).toArray:=by
 have e:(fun (m:Nat)=>xs[((i:Int) + (m:Int) * 1).toNat]?)=fun m=>xs[i + m]?:=by
  funext m
  have:((i:Int) + (m:Int) * 1).toNat=i + m:=by omega
  rw [this]
 rw [e]
 have:=pick_run xs i k
 rw [List.filterMap_map] at this
 have e2:((fun x=>xs[x]?) ∘ fun x=>i + x)=fun m=>xs[i + m]?:=rfl
 rw [e2] at this
 rw [this]
theorem rG {t sl:Addr} {items:Array Value} {vl vu:Value} {lo hi:Option Int} {Q:Value→Shared→Prop} (ht:IsTup s.heap t items) (hs:s.heap.IsSliceOf sl vl vu .none) (pl:IsPart vl lo) (pu:IsPart vu hi)
  (hw:¬(gG items.size 0 lo=0∧gG items.size items.size hi=items.size))
  (h:Q (.ref s.heap.objs.size) { s with heap:=s.heap.push { cls:=.type "tuple",data:=.seq ((items.toList.drop (gG items.size 0 lo)).take (gG items.size items.size hi - gG items.size 0 lo)).toArray } })
  (hsz:items.size≤sizeLine):wpAny (model prog w) A (getItem (.ref t) (.ref sl)) Q E s:=by
 have H9:sizeOk (.seq ((items.toList.drop (gG items.size 0 lo)).take (gG items.size items.size hi - gG items.size 0 lo)).toArray):=by
  show ((items.toList.drop (gG items.size 0 lo)).take (gG items.size items.size hi - gG items.size 0 lo)).toArray.size≤sizeLine
  rw [List.size_toArray,List.length_take,List.length_drop,Array.length_toList]
  omega
 have hj:gG items.size items.size hi≤items.size:=Vk _ _ (Nat.le_refl _) hi
 obtain ⟨os,hos,hcs,hds⟩:=id hs
 have hTs:s.TypeIs (.ref sl) "slice":=⟨os,hos,hcs⟩
 unfold getItem
 try with_reducible refine wpAny_holding ?_
 first | refine wpAny_bind (wpAny_pure ?_) | skip
 refine wpAny_bind (wpAny_sequenceKey ht.typeIs (by decide) ?_)
 refine wpAny_bind (wpAny_callSpecial?_slot (name:=Str.ofString "__getitem__") ht.typeIs PyProof.Rows.slot_tuple_getitem
  (wpAny_call_entry PyProof.Rows.slot_tuple_getitem ht.typeIs entry_tuple_getitem ?_ (args_tuple_getitem _ _)))
 show wpAny _ _ (Builtin.Tuple.tupleItemsOf (.ref t) >>= _) _ _ s
 refine wpAny_bind (tupleItemsOf_ ht ?_)
 refine wpAny_bind (wpAny_typeOf hTs ?_)
 rw [if_pos (by decide)]
 refine wpAny_bind (mK hs pl pu ?_)
 have hno:¬((((gG items.size 0 lo:Nat):Int)==0&&(1:Int)==1&&(gG items.size items.size hi - gG items.size 0 lo)==items.size)=true):=by
  intro q
  rw [Bool.and_eq_true,Bool.and_eq_true] at q
  have q1:((gG items.size 0 lo:Nat):Int)=0:=eq_of_beq q.1.1
  have q2:gG items.size items.size hi - gG items.size 0 lo=items.size:=eq_of_beq q.2
  exact hw ⟨by omega,by omega⟩
 show wpAny _ _ (if (((gG items.size 0 lo:Nat):Int)==0&&(1:Int)==1&&(gG items.size items.size hi - gG items.size 0 lo)==items.size)=true then _ else _) _ _ s
 rw [if_neg hno,Mp]
 first
  | exact wpAny_bind (m:=Builtin.Tuple.tupleExact _) (wpAny_newObj_type (wpAny_pure ⟨_,rfl,wpAny_pure h⟩) H9)
  | exact wpAny_bind (m:=Builtin.Tuple.tupleExact _) (wpAny_newObj_type (wpAny_bind (wpAny_pure (wpAny_pure ⟨_,rfl,wpAny_pure h⟩))) H9)
  | exact wpAny_bind (wpAny_bind (m:=Builtin.Tuple.tupleExact _) (wpAny_newObj_type (wpAny_pure (wpAny_pure ⟨_,rfl,wpAny_pure h⟩)) H9))
  | exact wpAny_bind (wpAny_bind (m:=Builtin.Tuple.tupleExact _) (wpAny_newObj_type (wpAny_pure ⟨_,rfl,wpAny_pure h⟩) H9))
end
end HT
namespace L2
open PySem PySem.Spec PyProof.Rows
abbrev TO:=St→Hp→(Option Int→Hp→Prop)→Prop
def PO (X:Cx) (e:Option Expr) (t:TO):Prop:=
 ∀(pins:List (Addr×Obj)) (s:Shared) (σ:St) (H:Hp) (Q:Option Int→Hp→Prop),Inv X pins σ H s→t σ H Q→
  wpAny (model X.prog X.w) X.A (evalPart e X.env) (fun u s'=>∃o H',Inv X pins σ H' s'∧IsPart u o∧Q o H') X.xe s
def QL:TO:=fun _ H Q=>Q none H
def Xz (t:TE):TO:=fun σ H Q=>t σ H fun x H1=>∃i,x=.int i∧Q (some i) H1
theorem intsAre_of {ns:List Int}:∀{us:List Value},Vals (ns.map V.int) us→IntsAre us ns:=by
 induction ns with
 | nil=>intro us r; rw [List.map_nil] at r; cases r; exact .nil
 | cons n ns ih=>
  intro us r
  rw [List.map_cons] at r
  cases r with
  | cons r1 r2=>
   obtain ⟨t,e⟩:=r1
   subst e
   exact .cons n t (ih r2)
section
variable {X:Cx} {e:Expr} {te:TE} {lo hi:Option Expr} {tl th:TO} {pos p2:Pos}
theorem QM:PO X none QL:=by
 intro pins s σ H Q I h
 rw [evalPart_none]
 exact wpAny_pure ⟨none,H,I,.none,h⟩
theorem QS (h:PE X e te):PO X (some e) (Xz te):=by
 intro pins s σ H Q I hw
 rw [evalPart_some]
 refine eZ (h pins s σ H _ I hw) fun u s1 ⟨x,H1,I1,r1,q1⟩=>?_
 obtain ⟨i,rfl,q⟩:=q1
 obtain ⟨t,rfl⟩:=r1
 exact ⟨some i,H1,I1,.int i t,q⟩
def QT (X:Cx) (r:V→Option Int→Option Int→Hp→VK→Prop):Prop:=
 ∀(pins:List (Addr×Obj)) (s:Shared) (σ:St) (H:Hp) (x:V) (v vl vu:Value) (lo hi:Option Int) (sl:Addr) (Q:VK),Inv X pins σ H s→RelV x v→s.heap.IsSliceOf sl vl vu .none→IsPart vl lo→IsPart vu hi→r x lo hi H Q→
  ∃T id,typeLookup (.type T) "__getitem__"=pure (some (.builtin id))∧s.TypeIs v T∧wpAny (model X.prog X.w) X.A (getItem v (.ref sl)) (EP X pins σ Q) X.xe s
theorem QT.or {r r':V→Option Int→Option Int→Hp→VK→Prop} (h:QT X r) (h':QT X r'):QT X (fun x lo hi H Q=>r x lo hi H Q∨r' x lo hi H Q):=by
 intro pins s σ H x v vl vu lo hi sl Q I rx hs pl pu q
 rcases q with q | q
 ·exact h pins s σ H x v vl vu lo hi sl Q I rx hs pl pu q
 ·exact h' pins s σ H x v vl vu lo hi sl Q I rx hs pl pu q
def tSl (r:V→Option Int→Option Int→Hp→VK→Prop) (te:TE) (tl th:TO):TE:=fun σ H Q=>te σ H fun x H1=>tl σ H1 fun l H2=>th σ H2 fun u H3=>r x l u H3 Q
theorem Mq {r:V→Option Int→Option Int→Hp→VK→Prop} (hr:QT X r) (he:PE X e te) (hl:PO X lo tl) (hu:PO X hi th):PE X (.Subscript e (.Slice lo hi none p2) pos) (tSl r te tl th):=by
 intro pins s σ H Q I h
 refine Subscript_ (eZ (he pins s σ H _ I h) fun v s1 ⟨x,H1,I1,r1,q1⟩=>?_)
 refine wpAny_Slice (eZ (hl pins s1 σ H1 _ I1 q1) fun vl s2 ⟨l,H2,I2,pl,q2⟩=>eZ (hu pins s2 σ H2 _ I2 q2) fun vu s3 ⟨u,H3,I3,pu,q3⟩=>?_)
 rw [evalPart_none]
 refine wpAny_pure ?_
 have I4:Inv X pins σ H3 { s3 with heap:=s3.heap.push { cls:=.type "slice",data:=.fields #[vl,vu,.none] } }:=I3.kept (t':=s3.toks) fun b ob q=>Heap.get?_push_of_some _ q
 obtain ⟨T,id,hT,ht,hg⟩:=hr pins { s3 with heap:=s3.heap.push { cls:=.type "slice",data:=.fields #[vl,vu,.none] } } σ H3 x v vl vu l u s3.heap.objs.size Q I4 r1 (Heap.IsSliceOf.new ..) pl pu q3
 show wpAny (model X.prog X.w) X.A (subscriptTail e (.Slice lo hi none p2) v (.ref s3.heap.objs.size)) (EP X pins σ Q) X.xe { s3 with heap:=s3.heap.push { cls:=.type "slice",data:=.fields #[vl,vu,.none] } }
 exact tail_any (ops:=[.ref s3.heap.objs.size,v]) ht hT hg (by with_unfolding_all rfl)
def vW (xs:List V) (lo hi:Option Int):List V:=(xs.drop (HT.gG xs.length 0 lo)).take (HT.gG xs.length xs.length hi - HT.gG xs.length 0 lo)
theorem uH (xs:List V) (lo hi:Option Int):(vW xs lo hi).length≤xs.length:=by
 unfold vW
 rw [List.length_take,List.length_drop]
 omega
def Z1 (K:PySem.W.Frag):V→Option Int→Option Int→Hp→VK→Prop:=fun x lo hi H Q=>∃a xs,x=.ref a∧jz K H a xs∧
 ¬(HT.gG xs.length 0 lo=0∧HT.gG xs.length xs.length hi=xs.length)∧∀p,H p=none→Q (.ref p) (upd H p (.tup (vW xs lo hi)))
theorem Vm:QT X (Z1 X.K):=by
 intro pins s σ H x v vl vu lo hi sl Q I rx hs pl pu h
 obtain ⟨a,xs,rfl,hx,hw,q⟩:=h
 cases rx
 obtain ⟨its,r,ht,hz⟩:=I.tuple hx
 have hlen:its.toArray.size=xs.length:=by rw [List.size_toArray]; exact r.length.symm
 refine ⟨"tuple",_,PyProof.Rows.slot_tuple_getitem.lookup,ht.typeIs,?_⟩
 refine HT.rG ht hs pl pu (by rw [hlen]; exact hw) ?_ (by rw [hlen]; exact hz)
 rw [hlen]
 refine ⟨.ref s.heap.objs.size,_,I.laid (t':=s.toks) (o:=.tup (vW xs lo hi)) (fun b ob q=>Heap.get?_push_of_some _ q) (Nat.le_refl _) ?_,rfl,q _ (I.hok.fresh (Nat.le_refl _))⟩
 exact ⟨Nat.le_trans (uH xs lo hi) hz,_,(r.drop (HT.gG xs.length 0 lo)).take (HT.gG xs.length xs.length hi - HT.gG xs.length 0 lo),IsTup.new _ _⟩
def Tt (K:PySem.W.Frag):R2:=fun x y H Q=>∃a b xs ys,x=.ref a∧y=.ref b∧jz K H a xs∧jz K H b ys∧xs≠[]∧xs.length + ys.length≤sizeLine∧
 (ys=[]→Q (.ref a) H)∧(ys≠[]→∀p,H p=none→Q (.ref p) (upd H p (.tup (xs++ys))))
theorem Vals.Ac {xs:List V} {us:List Value} (r:Vals xs us):us=[] ↔ xs=[]:=by
 cases r with
 | nil=>simp
 | cons _ _=>simp
theorem QV:jQ X (binaryOp .Add) (Tt X.K):=by
 intro pins s σ H x y v u Q I rx ry h
 obtain ⟨a,b,xs,ys,rfl,rfl,ha,hb,hx,hz,q1,q2⟩:=h
 cases rx
 cases ry
 obtain ⟨its,r1,p1,_⟩:=I.tuple ha
 obtain ⟨its2,r2,p2,_⟩:=I.tuple hb
 refine HT.QJ p1 p2 (fun z=>hx (r1.Ac.mp z)) (fun z=>⟨.ref a,H,I,rfl,q1 (r2.Ac.mp z)⟩) (fun z=>?_) (by rw [←r1.length,←r2.length]; exact hz)
 refine ⟨.ref s.heap.objs.size,_,I.laid (t':=s.toks) (o:=.tup (xs++ys)) (fun b ob q=>Heap.get?_push_of_some _ q) (Nat.le_refl _) ?_,rfl,q2 (fun w=>z (r2.Ac.mpr w)) _ (I.hok.fresh (Nat.le_refl _))⟩
 exact ⟨by rw [List.length_append]; exact hz,_,r1.append r2,IsTup.new _ _⟩
end
end L2
namespace L2
open PySem PySem.Spec PyProof.Rows
def oV (n:Nat) (i:Int):Option Nat:=if 0≤i then (if i < n then some i.toNat else none) else if -(n:Int)≤i then some (i + n).toNat else none
def j0 {α:Type} (xs:List α) (i:Int):Option α:=(oV xs.length i).bind fun j=>xs[j]?
theorem Ia {n:Nat} {i:Int} {j:Nat} (h:oV n i=some j):seqIndex? i n=some j∧j < n∧-(n:Int)≤i∧i < n:=by
 unfold oV at h
 by_cases h0:0≤i
 ·rw [if_pos h0] at h
  by_cases h1:i < n
  ·rw [if_pos h1] at h
   have e:i.toNat=j:=Option.some.inj h
   exact ⟨by rw [seqIndex_of h0 h1,e],by omega,by omega,h1⟩
  ·rw [if_neg h1] at h; cases h
 ·rw [if_neg h0] at h
  by_cases h1:-(n:Int)≤i
  ·rw [if_pos h1] at h
   have e:(i + n).toNat=j:=Option.some.inj h
   exact ⟨by rw [seqIndex_neg (by omega) h1,e],by omega,h1,by omega⟩
  ·rw [if_neg h1] at h; cases h
theorem Ad {α:Type} {xs:List α} {i:Int} {v:α} (h:j0 xs i=some v):∃j,seqIndex? i xs.length=some j∧xs[j]?=some v∧j < xs.length∧-(xs.length:Int)≤i∧i < xs.length:=by
 unfold j0 at h
 cases e:oV xs.length i with
 | none=>rw [e] at h; cases h
 | some j=>
  rw [e] at h
  obtain ⟨h1,h2,h3,h4⟩:=Ia e
  exact ⟨j,h1,h,h2,h3,h4⟩
theorem Ae {α:Type} {xs:List α} {j:Nat} {v:α} (h:xs[j]?=some v):j0 xs (j:Int)=some v:=by
 have hj:j < xs.length:=(List.getElem?_eq_some_iff.mp h).1
 have e:oV xs.length (j:Int)=some j:=by
  unfold oV
  rw [if_pos (by omega),if_pos (by omega)]; simp
 unfold j0; rw [e]; exact h
def vh (b:Expr):Prop:=∀o i,subscripted b false o i=operate [o,i] (getItem o i)
def Lj (X:Cx) (r:R2):Prop:=
 ∀(value slice:Expr) (pins:List (Addr×Obj)) (s:Shared) (σ:St) (H:Hp) (x y:V) (v u:Value) (Q:VK),Inv X pins σ H s→RelV x v→RelV y u→r x y H Q→
  subscripted slice false v u=operate [v,u] (getItem v u)→wpAny (model X.prog X.w) X.A (subscriptTail value slice v u) (EP X pins σ Q) X.xe s
def WQ (X:Cx) (id:String) (r:V→List V→Hp→VK→Prop):Prop:=
 ∀(pins:List (Addr×Obj)) (s:Shared) (σ:St) (H:Hp) (x:V) (xs:List V) (v:Value) (us:List Value) (Q:VK),Inv X pins σ H s→RelV x v→Vals xs us→r x xs H Q→
  wpAny (model X.prog X.w) X.A (call (.builtin id) (v::us)) (EP X pins σ Q) X.xe s
section
variable {X:Cx} {a b:Expr} {ta tb:TE} {pos:Pos}
theorem Lj.or {r r':R2} (h:Lj X r) (h':Lj X r'):Lj X (fun x y H Q=>r x y H Q∨r' x y H Q):=by
 intro value slice pins s σ H x y v u Q I rx ry q hs
 rcases q with q | q
 ·exact h value slice pins s σ H x y v u Q I rx ry q hs
 ·exact h' value slice pins s σ H x y v u Q I rx ry q hs
theorem WQ.or {id:String} {r r':V→List V→Hp→VK→Prop} (h:WQ X id r) (h':WQ X id r'):WQ X id (fun x xs H Q=>r x xs H Q∨r' x xs H Q):=by
 intro pins s σ H x xs v us Q I rx rs q
 rcases q with q | q
 ·exact h pins s σ H x xs v us Q I rx rs q
 ·exact h' pins s σ H x xs v us Q I rx rs q
theorem Mr {r:R2} (hr:Lj X r) (ha:PE X a ta) (hb:PE X b tb) (hs:vh b):PE X (.Subscript a b pos) (Xj r ta tb):=by
 intro pins s σ H Q I h
 exact Subscript_ (U9 ha hb I h fun v u s2 x y H2 I2 rx ry q=>hr a b pins s2 σ H2 x y v u Q I2 rx ry q (hs _ _))
def XC (K:PySem.W.Frag):R2:=fun x y H Q=>∃p xs i v,x=.ref p∧y=.int i∧dW K H p xs∧j0 xs i=some v∧Q v H
def XD (K:PySem.W.Frag):R2:=fun x y H Q=>∃p xs i v,x=.ref p∧y=.int i∧jz K H p xs∧j0 xs i=some v∧Q v H
def XF:R2:=fun x y H Q=>∃z i c,x=.str z∧y=.int i∧z.length≤sizeLine∧j0 z.cps.toList i=some c∧Q (.str ⟨#[c]⟩) H
theorem Af:Lj X (XC X.K):=by
 intro value slice pins s σ H x y v u Q I rx ry h hs
 obtain ⟨p,xs,i,z,rfl,rfl,hq,he,q⟩:=h
 cases rx
 obtain ⟨t,rfl⟩:=ry
 obtain ⟨its,r,pl,hz⟩:=I.list hq
 obtain ⟨j,h1,h2,h3,h4,h5⟩:=Ad he
 obtain ⟨w,ew,rw'⟩:=r.get h2
 have hl:=r.length
 have hn:=qC
 have fin:EP X pins σ Q w s:=⟨z,H,I,rw',q⟩
 by_cases h0:0≤i
 ·have hj:i.toNat=j:=by
   rw [seqIndex_of h0 h5] at h1
   exact Option.some.inj h1
  exact item_listR pl.isList h0 (by omega) (by rw [hj]; simpa using ew) fin hs
 ·have hj:(i + (its.toArray.size:Int)).toNat=j:=by
   rw [seqIndex_neg (by omega) h4] at h1
   rw [List.size_toArray,←hl]
   exact Option.some.inj h1
  exact subscriptTail_builtinR (x:=w) pl.isList.typeIs slot_list_getitem.lookup
   (wpAny_getItem_list_neg (Q:=fun r s'=>r=w∧EP X pins σ Q r s') pl.isList (by omega) (by rw [List.size_toArray] <;> omega) (by omega) (by rw [hj]; simpa using ew) ⟨rfl,fin⟩) hs
theorem ji:Lj X (XD X.K):=by
 intro value slice pins s σ H x y v u Q I rx ry h hs
 obtain ⟨p,xs,i,z,rfl,rfl,hq,he,q⟩:=h
 cases rx
 obtain ⟨t,rfl⟩:=ry
 obtain ⟨its,r,pl,hz⟩:=I.tuple hq
 obtain ⟨j,h1,h2,h3,h4,h5⟩:=Ad he
 obtain ⟨w,ew,rw'⟩:=r.get h2
 have hl:=r.length
 have hn:=qC
 have fin:EP X pins σ Q w s:=⟨z,H,I,rw',q⟩
 exact subscriptTail_builtinR (x:=w) pl.typeIs slot_tuple_getitem.lookup
  (getItem_tuple (j:=j) (Q:=fun r s'=>r=w∧EP X pins σ Q r s') pl (by omega) (by omega) (by rw [List.size_toArray,←hl]; exact h1) (by simpa using ew) ⟨rfl,fin⟩) hs
theorem Vn:Lj X XF:=by
 intro value slice pins s σ H x y v u Q I rx ry h hs
 obtain ⟨z,i,c,rfl,rfl,hz,he,q⟩:=h
 obtain ⟨t,rfl⟩:=rx
 obtain ⟨t',rfl⟩:=ry
 obtain ⟨j,h1,h2,h3,h4,h5⟩:=Ad he
 have hl:z.cps.toList.length=z.length:=by simp [Str.length]
 rw [hl] at h1 h4 h5
 have hn:=qC
 exact tail_any (typeIs_str s z t) slot_str_getitem.lookup (getItem_str (c:=c) (by
  have e1:decide (i < -(2 ^ 63:Int))=false:=decide_eq_false (by omega)
  have e2:decide (i ≥ 2 ^ 63)=false:=decide_eq_false (by omega)
  rw [e1,e2,Bool.or_false]) (by rw [h1]; simpa using h2) ⟨.str ⟨#[c]⟩,H,I.tok _,⟨_,rfl⟩,q⟩) hs
def rIx (K:PySem.W.Frag):R2:=fun x y H Q=>XC K x y H Q∨XD K x y H Q∨XF x y H Q
theorem Vo:Lj X (rIx X.K):=Af.or (ji.or Vn)
theorem Gd (its:List Value) (n j:Nat) (u:Value):Obj.mapSeq (·.setIfInBounds j u) { cls:=.type "list",data:=.seq its.toArray n }={ cls:=.type "list",data:=.seq (its.set j u).toArray n }:=by
 simp [Obj.mapSeq]
theorem Inv.lst {pins:List (Addr×Obj)} {σ:St} {H:Hp} {s:Shared} {p:Addr} {xs:List V} (I:Inv X pins σ H s) (h:H p=some (.lst xs)):
  ∃(its:List Value) (n:Nat),Vals xs its∧s.heap.get? p=some { cls:=.type "list",data:=.seq its.toArray n }∧xs.length≤sizeLine:=by
 obtain ⟨z,its,n,r,e⟩:=I.hok p _ h
 exact ⟨its,n,r,e,z⟩
theorem Inv.Vp {pins:List (Addr×Obj)} {σ:St} {H:Hp} {s:Shared} {p:Addr} {xs ys:List V} {its its':List Value} {n n':Nat} {f:Obj→Obj} (I:Inv X pins σ H s) (h:H p=some (.lst xs))
  (ho:s.heap.get? p=some { cls:=.type "list",data:=.seq its.toArray n }) (hf:f { cls:=.type "list",data:=.seq its.toArray n }={ cls:=.type "list",data:=.seq its'.toArray n' }) (r:Vals ys its') (hz:ys.length≤sizeLine) (t:Nat):
  Inv X pins σ (upd H p (.lst ys)) { s with heap:=s.heap.update p f,toks:=t }:=by
 have e:(s.heap.update p f).get? p=some { cls:=.type "list",data:=.seq its'.toArray n' }:=by
  rw [Heap.get?_update_self f ho (by rw [hf] <;> rfl),hf]
 refine I.write (x:=p) (e:=p) (by rw [h]; trivial) (.inl rfl) (fun b u hb q=>(Heap.get?_update_other _ _ (Ne.symm hb)).trans q) ⟨_,e⟩ ?_
 exact ⟨hz,its',n',r,e⟩
def Tu:V→V→V→Hp→(Hp→Prop)→Prop:=fun o i v H Q=>∃p xs k j,o=.ref p∧i=.int k∧H p=some (.lst xs)∧oV xs.length k=some j∧Q (upd H p (.lst (xs.set j v)))
theorem set_list:z8 X Tu:=by
 intro pins s σ H o i v ov iv u Q I ro ri rv h
 obtain ⟨p,xs,k,j,rfl,rfl,hp,hj,q⟩:=h
 cases ro
 obtain ⟨t,rfl⟩:=ri
 obtain ⟨its,n,r,ho,hz⟩:=I.lst hp
 obtain ⟨h1,h2,h3,h4⟩:=Ia hj
 have hl:=r.length
 have hn:=qC
 have I':Inv X pins σ (upd H p (.lst (xs.set j v))) { s with heap:=s.heap.update p (Obj.mapSeq (·.setIfInBounds j u)) }:=
  I.Vp hp ho (Gd its n j u) (r.set rv j) (by rw [List.length_set]; exact hz) s.toks
 by_cases h0:0≤k
 ·have hk:k.toNat=j:=by
   rw [seqIndex_of h0 h4] at h1
   exact Option.some.inj h1
  exact PySem.W.ki_setAt ho h0 (by omega) (by rw [List.size_toArray,←hl]; exact h4) (by rw [hk]; exact ⟨_,I',q⟩)
 ·have hk:(k + (its.toArray.size:Int)).toNat=j:=by
   rw [seqIndex_neg (by omega) h3] at h1
   rw [List.size_toArray,←hl]
   exact Option.some.inj h1
  exact PySem.W.ki_setBack ho (by omega) (by rw [List.size_toArray,←hl]; exact h3) (by omega) (by rw [hk]; exact ⟨_,I',q⟩)
theorem Ag (lo hi:Option Int) (n:Nat):(sliceBounds lo hi none n).1=((HT.gG n 0 lo:Nat):Int)∧(sliceBounds lo hi none n).2.1=((HT.gG n n hi:Nat):Int)∧(sliceBounds lo hi none n).2.2=1:=by
 refine ⟨?_,?_,rfl⟩
 ·cases lo with
  | none=>simp [sliceBounds,HT.gG]
  | some i=>
   simp only [sliceBounds,HT.gG,Option.getD_none,show (1:Int) > 0 by decide,if_true]
   by_cases h:i < 0
   ·simp only [h,if_true] <;> omega
   ·simp only [h,if_false] <;> omega
 ·cases hi with
  | none=>simp [sliceBounds,HT.gG]
  | some i=>
   simp only [sliceBounds,HT.gG,Option.getD_none,show (1:Int) > 0 by decide,if_true]
   by_cases h:i < 0
   ·simp only [h,if_true] <;> omega
   ·simp only [h,if_false] <;> omega
theorem yI (its:List Value) (lo hi:Option Int):slicePick its.toArray lo hi none=((its.drop (HT.gG its.length 0 lo)).take (HT.gG its.length its.length hi - HT.gG its.length 0 lo)).toArray:=by
 obtain ⟨h1,h2,h3⟩:=Ag lo hi its.toArray.size
 unfold slicePick
 rw [h1,h2,h3]
 simp only [sliceRange_one,pick_run,List.size_toArray] <;> rfl
def Z2 (K:PySem.W.Frag):V→Option Int→Option Int→Hp→VK→Prop:=fun x lo hi H Q=>∃a xs,x=.ref a∧dW K H a xs∧∀p,H p=none→Q (.ref p) (upd H p (.lst (vW xs lo hi)))
theorem QW:QT X (Z2 X.K):=by
 intro pins s σ H x v vl vu lo hi sl Q I rx hs pl pu h
 obtain ⟨a,xs,rfl,hx,q⟩:=h
 cases rx
 obtain ⟨its,r,ht,hz⟩:=I.list hx
 have hlen:=r.length
 refine ⟨"list",_,slot_list_getitem.lookup,ht.isList.typeIs,?_⟩
 refine wpAny_getItem_list_slice ht.isList hs pl pu .none (by simp) ?_ (by rw [List.size_toArray] <;> omega)
 rw [yI,←hlen]
 refine ⟨.ref s.heap.objs.size,_,I.laid (t':=s.toks) (o:=.lst (vW xs lo hi)) (fun b ob q=>Heap.get?_push_of_some _ q) (Nat.le_refl _) ?_,rfl,q _ (I.hok.fresh (Nat.le_refl _))⟩
 exact ⟨Nat.le_trans (uH xs lo hi) hz,_,0,(r.drop (HT.gG xs.length 0 lo)).take (HT.gG xs.length xs.length hi - HT.gG xs.length 0 lo),Heap.get?_push_size _ rfl⟩
def mL:V→Bool
 | .non=>true
 | .bl _=>true
 | .int _=>true
 | .str _=>true
 | _=>false
def Ms:V→V→Bool
 | .non,.non=>true
 | .bl a,.bl b=>a==b
 | .bl a,.int b=>(if a then 1 else 0)==b
 | .int a,.bl b=>a==(if b then 1 else 0)
 | .int a,.int b=>a==b
 | .str a,.str b=>a==b
 | _,_=>false
theorem Ge {A:Around} {s:Shared} {y x:V} {u v:Value} (ry:RelV y u) (rx:RelV x v) (fy:mL y=true) (fx:mL x=true):SeqAt.EqAt A s u v (Ms y x):=by
 cases y with
 | non=>
  cases ry
  cases x with
  | non=>cases rx; exact SeqAt.EqAt.same _
  | bl b=>cases rx; exact SeqAt.EqAt.none_bool b
  | int b=>obtain ⟨t,rfl⟩:=rx; exact SeqAt.EqAt.none_int b t
  | str b=>obtain ⟨t,rfl⟩:=rx; exact SeqAt.EqAt.none_str b t
  | _=>exact absurd (show false=true from fx) Bool.false_ne_true
 | bl a=>
  cases ry
  cases x with
  | non=>cases rx; exact SeqAt.EqAt.bool_none a
  | bl b=>cases rx; exact SeqAt.EqAt.bool_bool a b
  | int b=>obtain ⟨t,rfl⟩:=rx; exact SeqAt.EqAt.bool_int a b t
  | str b=>obtain ⟨t,rfl⟩:=rx; exact SeqAt.EqAt.bool_str a b t
  | _=>exact absurd (show false=true from fx) Bool.false_ne_true
 | int a=>
  obtain ⟨t',rfl⟩:=ry
  cases x with
  | non=>cases rx; exact SeqAt.EqAt.int_none a t'
  | bl b=>cases rx; exact SeqAt.EqAt.int_bool a t' b
  | int b=>obtain ⟨t,rfl⟩:=rx; exact SeqAt.EqAt.int_int a t' b t
  | str b=>obtain ⟨t,rfl⟩:=rx; exact SeqAt.EqAt.int_str a t' b t
  | _=>exact absurd (show false=true from fx) Bool.false_ne_true
 | str a=>
  obtain ⟨t',rfl⟩:=ry
  cases x with
  | non=>cases rx; exact SeqAt.EqAt.str_none a t'
  | bl b=>cases rx; exact SeqAt.EqAt.str_bool a t' b
  | int b=>obtain ⟨t,rfl⟩:=rx; exact SeqAt.EqAt.str_int a t' b t
  | str b=>obtain ⟨t,rfl⟩:=rx; exact SeqAt.EqAt.str_str a t' b t
  | _=>exact absurd (show false=true from fx) Bool.false_ne_true
 | _=>exact absurd (show false=true from fy) Bool.false_ne_true
def Gf (x:V) (u:Value):Bool:=match u with
 | .none=>Ms .non x
 | .bool b=>Ms (.bl b) x
 | .int i _=>Ms (.int i) x
 | .str z _=>Ms (.str z) x
 | _=>false
theorem Mt {x y:V} {u:Value} (r:RelV y u) (f:mL y=true):Gf x u=Ms y x:=by
 cases y with
 | non=>cases r; rfl
 | bl b=>cases r; rfl
 | int i=>obtain ⟨t,rfl⟩:=r; rfl
 | str z=>obtain ⟨t,rfl⟩:=r; rfl
 | _=>exact absurd (show false=true from f) Bool.false_ne_true
theorem rH {x:V}:∀{xs:List V} {us:List Value},Vals xs us→xs.all mL=true→us.any (Gf x)=xs.any fun y=>Ms y x
 | _,_,.nil,_=>rfl
 | y::xs,u::us,.cons r t,f=>by
  rw [List.all_cons,Bool.and_eq_true] at f
  rw [List.any_cons,List.any_cons,Mt r f.1,rH t f.2]
theorem oZ {A:Around} {s:Shared} {x:V} {v:Value} (rx:RelV x v) (fx:mL x=true):∀{xs:List V} {us:List Value},Vals xs us→xs.all mL=true→∀u∈us,SeqAt.EqAt A s u v (Gf x u)
 | _,_,.nil,_=>fun u hu=>by cases hu
 | y::xs,u::us,.cons r t,f=>fun u' hu=>by
  rw [List.all_cons,Bool.and_eq_true] at f
  rcases List.mem_cons.mp hu with rfl | hu
  ·rw [Mt r f.1]; exact Ge r rx f.1 fx
  ·exact oZ rx fx t f.2 u' hu
def inV (x:V) (xs:List V):Bool:=xs.any fun y=>Ms y x
def Za (K:PySem.W.Frag) (neg:Bool):R2:=fun x y H Q=>∃p xs,y=.ref p∧(dW K H p xs∨jz K H p xs)∧mL x=true∧xs.all mL=true∧Q (.bl (if neg then !inV x xs else inV x xs)) H
theorem J9:jQ X (compareOp .In) (Za X.K false):=by
 intro pins s σ H x y v u Q I rx ry h
 obtain ⟨p,xs,rfl,hq,fx,fs,q⟩:=h
 cases ry
 rcases hq with hq | hq
 ·obtain ⟨its,r,pl,hz⟩:=I.list hq
  refine SeqAt.in_listAt (Gf x) pl.isList (fun w hw=>oZ rx fx r fs w (by simpa using hw)) ⟨.bl _,H,I,rfl,?_⟩
  rw [show its.toArray.any (Gf x)=its.any (Gf x) by simp,rH r fs]
  exact q
 ·obtain ⟨its,r,pl,hz⟩:=I.tuple hq
  refine SeqAt.in_tupleAt (Gf x) pl (fun w hw=>oZ rx fx r fs w (by simpa using hw)) ⟨.bl _,H,I,rfl,?_⟩
  rw [show its.toArray.any (Gf x)=its.any (Gf x) by simp,rH r fs]
  exact q
theorem Ah:jQ X (compareOp .NotIn) (Za X.K true):=by
 intro pins s σ H x y v u Q I rx ry h
 obtain ⟨p,xs,rfl,hq,fx,fs,q⟩:=h
 cases ry
 rcases hq with hq | hq
 ·obtain ⟨its,r,pl,hz⟩:=I.list hq
  refine SeqAt.notIn_listAt (Gf x) pl.isList (fun w hw=>oZ rx fx r fs w (by simpa using hw)) ⟨.bl _,H,I,rfl,?_⟩
  rw [show its.toArray.any (Gf x)=its.any (Gf x) by simp,rH r fs]
  exact q
 ·obtain ⟨its,r,pl,hz⟩:=I.tuple hq
  refine SeqAt.notIn_tupleAt (Gf x) pl (fun w hw=>oZ rx fx r fs w (by simpa using hw)) ⟨.bl _,H,I,rfl,?_⟩
  rw [show its.toArray.any (Gf x)=its.any (Gf x) by simp,rH r fs]
  exact q
theorem rJ:dF X (.builtin "len") (fun xs H Q=>∃p ys,xs=[.ref p]∧(dW X.K H p ys∨jz X.K H p ys)∧Q (.int ys.length) H):=by
 intro pins s σ H xs us Q I r h
 obtain ⟨p,ys,rfl,hq,q⟩:=h
 obtain ⟨u,rfl,rx⟩:=vals1 r
 cases rx
 have hn:=qC
 rcases hq with hq | hq
 ·obtain ⟨its,r',pl,hz⟩:=I.list hq
  have hlen:=r'.length
  exact Calls.call_len_list pl.isList (by simp only [List.size_toArray] <;> omega) ⟨.int ys.length,H,I.tok _,⟨s.toks + 1,by rw [List.size_toArray,hlen]⟩,q⟩
 ·obtain ⟨its,r',pl,hz⟩:=I.tuple hq
  have hlen:=r'.length
  exact len_tuple pl (by simp only [List.size_toArray] <;> omega) ⟨.int ys.length,H,I.tok _,⟨s.toks + 1,by rw [List.size_toArray,hlen]⟩,q⟩
theorem Ai:dF X (.builtin "len") (fun xs H Q=>∃z,xs=[.str z]∧z.length≤sizeLine∧Q (.int z.length) H):=by
 intro pins s σ H xs us Q I r h
 obtain ⟨z,rfl,hz,q⟩:=h
 obtain ⟨u,rfl,t,rfl⟩:=vals1 r
 have hn:=qC
 exact len_str (by omega) ⟨.int z.length,H,I.tok _,⟨_,rfl⟩,q⟩
theorem dF.or {f:Value} {r r':List V→Hp→VK→Prop} (h:dF X f r) (h':dF X f r'):dF X f (fun xs H Q=>r xs H Q∨r' xs H Q):=by
 intro pins s σ H xs us Q I rs q
 rcases q with q | q
 ·exact h pins s σ H xs us Q I rs q
 ·exact h' pins s σ H xs us Q I rs q
theorem Aj:dF X (.type "list") (fun xs H Q=>∃p ys,xs=[.ref p]∧(dW X.K H p ys∨jz X.K H p ys)∧∀l,H l=none→Q (.ref l) (upd H l (.lst ys))):=by
 intro pins s σ H xs us Q I r h
 obtain ⟨p,ys,rfl,hq,q⟩:=h
 obtain ⟨u,rfl,rx⟩:=vals1 r
 cases rx
 have fin:∀(its:List Value),Vals ys its→ys.length≤sizeLine→∀(h':Heap) (c':Nat),(∀b o',s.heap.get? b=some o'→h'.get? b=some o')→
   h'.get? s.heap.objs.size=some { cls:=.type "list",dict:=none,data:=.seq its.toArray c',slots:=#[] }→EP X pins σ Q (.ref s.heap.objs.size) { s with heap:=h' }:=fun its r' hz h' c' kp e=>
  ⟨.ref s.heap.objs.size,_,I.laid (t':=s.toks) kp (Nat.le_refl _) (show cF X.prog X.w _ h' _ (.lst ys) from ⟨hz,its,c',r',e⟩),rfl,q _ (I.hok.fresh (Nat.le_refl _))⟩
 rcases hq with hq | hq
 ·obtain ⟨its,r',pl,hz⟩:=I.list hq
  have hlen:=r'.length
  obtain ⟨o,ho,hc,n,hd⟩:=pl.isList
  exact call_list_seq p (.inl rfl) ho hc hd (fun h' c' kp e=>fin its r' hz h' c' kp e) (by simp only [List.size_toArray] <;> omega)
 ·obtain ⟨its,r',pl,hz⟩:=I.tuple hq
  have hlen:=r'.length
  obtain ⟨o,ho,hc,n,hd⟩:=pl
  exact call_list_seq p (.inr rfl) ho hc hd (fun h' c' kp e=>fin its r' hz h' c' kp e) (by simp only [List.size_toArray] <;> omega)
theorem gK:dF X (.type "tuple") (fun xs H Q=>∃p ys,xs=[.ref p]∧((dW X.K H p ys∧∀l,H l=none→Q (.ref l) (upd H l (.tup ys)))∨(jz X.K H p ys∧Q (.ref p) H))):=by
 intro pins s σ H xs us Q I r h
 obtain ⟨p,ys,rfl,h⟩:=h
 obtain ⟨u,rfl,rx⟩:=vals1 r
 cases rx
 rcases h with ⟨hq,q⟩ | ⟨hq,q⟩
 ·obtain ⟨its,r',pl,hz⟩:=I.list hq
  have hlen:=r'.length
  refine call_tuple_list pl.isList (fun h' kp=>?_) (by simp only [List.size_toArray] <;> omega)
  have I1:Inv X pins σ H { s with heap:=h' }:=I.kept (t':=s.toks) kp
  have I2:Inv X pins σ (upd H h'.objs.size (.tup ys)) { s with heap:=h'.push { cls:=.type "tuple",data:=.seq its.toArray } }:=
   I1.laid (t':=s.toks) (fun b o e=>Heap.get?_push_of_some _ e) (Nat.le_refl _) (show cF X.prog X.w _ _ _ (.tup ys) from ⟨hz,its,r',IsTup.new _ _⟩)
  exact ⟨.ref h'.objs.size,_,I2,rfl,q _ (I1.hok.fresh (Nat.le_refl _))⟩
 ·obtain ⟨its,r',pl,hz⟩:=I.tuple hq
  exact call_tuple_same pl ⟨.ref p,H,I,rfl,q⟩
def tyV (K:PySem.W.Frag) (T:String) (x:V) (H:Hp):Prop:=match x with
 | .str _=>T="str"
 | .int _=>T="int"
 | .ref p=>(T="list"∧∃xs,dW K H p xs)∨(T="tuple"∧∃o,K.lookup p=some o∧o.cls=.type "tuple"∧o.dict=none)∨
   (T="dict"∧((∃kvs,H p=some (.dK kvs))∨∃kvs,H p=some (.dT kvs)))∨(T="set"∧∃S n,H p=some (.set S n))
 | _=>False
theorem Vq {pins:List (Addr×Obj)} {σ:St} {H:Hp} {s:Shared} {T:String} {x:V} {v:Value} (I:Inv X pins σ H s) (r:RelV x v) (ty:tyV X.K T x H):
  s.TypeIs v T∧∀a,v=.ref a→∃ob,s.heap.get? a=some ob∧ob.dict=none:=by
 cases x with
 | str z=>
  obtain ⟨t,rfl⟩:=r
  cases (show T="str" from ty)
  exact ⟨typeIs_str s z t,fun _ e=>nomatch e⟩
 | int i=>
  obtain ⟨t,rfl⟩:=r
  cases (show T="int" from ty)
  exact ⟨typeIs_int s i t,fun _ e=>nomatch e⟩
 | ref p=>
  cases r
  rcases ty with ⟨rfl,xs,hq⟩ | ⟨rfl,o,hk,hc,hd⟩ | ⟨rfl,hk⟩ | ⟨rfl,S,n,hk⟩
  ·obtain ⟨its,_,pl,_⟩:=I.list hq
   refine ⟨pl.isList.typeIs,fun a e=>?_⟩
   cases e
   obtain ⟨o,n,e,c,hd,_⟩:=pl
   exact ⟨o,e,hd⟩
  ·refine ⟨⟨o,I.tK p o hk,hc⟩,fun a e=>?_⟩
   cases e
   exact ⟨o,I.tK _ o hk,hd⟩
  ·have z:∃o,s.heap.get? p=some o∧o.ExactDict:=by
    rcases hk with ⟨kvs,hk⟩ | ⟨kvs,hk⟩
    ·obtain ⟨_,_,_,_,o,_,_,e,ex,_⟩:=I.hok p _ hk
     exact ⟨o,e,ex⟩
    ·obtain ⟨_,_,_,_,o,_,_,e,ex,_⟩:=I.hok p _ hk
     exact ⟨o,e,ex⟩
   obtain ⟨o,e,ex⟩:=z
   refine ⟨⟨o,e,ex.1⟩,fun a e2=>?_⟩
   cases e2
   exact ⟨o,e,ex.2.1⟩
  ·obtain ⟨o,_,_,_,e,ex,_⟩:=I.hok p _ hk
   refine ⟨⟨o,e,ex.1⟩,fun a e2=>?_⟩
   cases e2
   exact ⟨o,e,ex.2.1⟩
 | _=>exact False.elim ty
def tBM (K:PySem.W.Frag) (T:String) (r:V→List V→Hp→VK→Prop) (to:TE) (t:TA):TE:=fun σ H Q=>to σ H fun x H1=>tyV K T x H1∧t σ H1 fun xs H2=>r x xs H2 Q
variable {o e:Expr} {es:List Expr} {to:TE} {t:TA} {name:Str} {apos cpos:Pos} {T id:String} {r:V→List V→Hp→VK→Prop}
theorem Tv (pa:PlainAttrs T) (slot:Slot T name id) (hty:typeOf (.builtin id)=pure (.type "method_descriptor")) (hm:WQ X id r) (ho:PE X o to) (ha:PA X (e::es) t)
  (hbase:attributeBase o name X.env (eval o X.env)=eval o X.env:=by rfl)
  (hfew:((backTo cpos (starEach (e::es) X.env)).all (fun x=>!x.1)&&(backToKw cpos (keywordEach [] X.env)).all (fun x=>x.1.isSome)
   &&decide ((e::es).length + ([]:List Keyword).length + (if ([]:List Keyword).isEmpty then 0 else 1) < 30))=true:=by rfl)
  (hline:(apos.endLine==cpos.line)=true:=by rfl) (hs:starEach (e::es) X.env=(false,eval e X.env)::starEach es X.env:=by rfl) (hplain:(backTo cpos (starEach es X.env)).any (·.1)=false:=by rfl):
  PE X (.Call (.Attribute o name apos) (e::es) [] cpos) (tBM X.K T r to t):=by
 intro pins s σ H Q I h
 refine wpAny_Call_method_late hbase hfew hline rfl (eZ (ho pins s σ H _ I h) fun v s1 ⟨x,H1,I1,r1,ty,q1⟩=>?_)
 obtain ⟨h1,h2⟩:=Vq I1 r1 ty
 refine ⟨T,id,pa,slot,hty,h1,h2,?_⟩
 have hA:=ha cpos pins s1 σ H1 _ I1 q1
 rw [hs] at hA ⊢
 refine Calls.callWith_builtin (by show (false || (backTo cpos (starEach es X.env)).any (·.1))=false; rw [hplain] <;> rfl) (Calls.evalArgs_plain ?_)
 exact eZ hA fun us s2 ⟨vs,H2,I2,r2,q2⟩=>hm pins s2 σ H2 x vs v us Q I2 r1 r2 q2
end
end L2
namespace L2
open PySem PySem.Spec PyProof.Rows
def WR (X:Cx) (id:String) (r:V→List V→Hp→VK→Prop):Prop:=
 ∀(pins:List (Addr×Obj)) (s:Shared) (σ:St) (H:Hp) (x:V) (xs:List V) (v:Value) (us:List Value) (Q:VK),Inv X pins σ H s→RelV x v→Vals xs us→r x xs H Q→
  wpAny (model X.prog X.w) X.A (call (.builtin id) (v::us)) (EP X pins σ Q) X.xe s
theorem Vals.one:∀{x:V} {us:List Value},Vals [x] us→∃u,us=[u]∧RelV x u
 | _,_,.cons r .nil=>⟨_,rfl,r⟩
theorem Vals.two:∀{x y:V} {us:List Value},Vals [x,y] us→∃u v,us=[u,v]∧RelV x u∧RelV y v
 | _,_,_,.cons r (.cons q .nil)=>⟨_,_,rfl,r,q⟩
theorem Vals.zero:∀{us:List Value},Vals [] us→us=[]
 | _,.nil=>rfl
theorem Vals.eraseIdx:∀{xs:List V} {us:List Value} (i:Nat),Vals xs us→Vals (xs.eraseIdx i) (us.eraseIdx i)
 | _,_,_,.nil=>.nil
 | _,_,0,.cons _ t=>t
 | _,_,i + 1,.cons r t=>.cons r (Vals.eraseIdx i t)
theorem Vals.reverse {xs:List V} {us:List Value} (h:Vals xs us):Vals xs.reverse us.reverse:=by
 induction h with
 | nil=>exact .nil
 | cons r t ih=>rw [List.reverse_cons,List.reverse_cons]; exact Vals.append ih (.cons r .nil)
section
variable {X:Cx} {pins:List (Addr×Obj)} {σ:St} {H:Hp} {s:Shared} {l b:Addr} {xs ys zs:List V}
theorem Inv.Z3 {its its':List Value} {n:Nat} {f:Array Value→Array Value} {t':Nat} (I:Inv X pins σ H s) (hH:H l=some (.lst xs))
  (e:s.heap.get? l=some { cls:=.type "list",data:=.seq its.toArray n }) (hf:f its.toArray=its'.toArray) (hv:Vals ys its') (hz:ys.length≤sizeLine):
  Inv X pins σ (upd H l (.lst ys)) { s with heap:=s.heap.update l (Obj.mapSeq f),toks:=t' }:=by
 have q:=PySem.IsL.update e f
 rw [hf] at q
 refine I.write (x:=l) (e:=l) (by rw [hH]; exact trivial) (.inl rfl) (fun b' u hb hu=>(Heap.get?_update_other s.heap (Obj.mapSeq f) (Ne.symm hb)).trans hu) ⟨_,q⟩ ?_
 exact ⟨hz,its',_,hv,q⟩
theorem Inv.Z4 {its:List Value} {t':Nat} (I:Inv X pins σ H s) (hv:Vals ys its) (hz:ys.length≤sizeLine):
  Inv X pins σ (upd H s.heap.objs.size (.lst ys)) { s with heap:=s.heap.push { cls:=.type "list",data:=.seq its.toArray },toks:=t' }:=
 I.laid (fun _ _ q=>Heap.get?_push_of_some _ q) (Nat.le_refl _) ⟨hz,its,0,hv,Heap.get?_push_size _ rfl⟩
theorem Inv.fresh (I:Inv X pins σ H s):H s.heap.objs.size=none:=I.hok.fresh (Nat.le_refl _)
theorem Inv.Vr (I:Inv X pins σ H s) (hH:H l=some (.lst xs)):xs.length≤sizeLine∧∃(its:List Value) (n:Nat),Vals xs its∧xs.length=its.length∧s.heap.get? l=some { cls:=.type "list",data:=.seq its.toArray n }:=by
 obtain ⟨z,its,n,r,e⟩:=I.hok l _ hH
 exact ⟨z,its,n,r,r.length,e⟩
end
section
variable {X:Cx}
def QX:V→List V→Hp→VK→Prop:=fun x vs H Q=>∃l xs y,x=.ref l∧vs=[y]∧H l=some (.lst xs)∧xs.length < sizeLine∧Q .non (upd H l (.lst (xs++[y])))
theorem yV:WR X "list.append" QX:=by
 intro pins s σ H x vs v us Q I rx rv h
 obtain ⟨l,xs,y,rfl,rfl,hH,hz,q⟩:=h
 cases rx
 obtain ⟨u,rfl,ru⟩:=rv.one
 obtain ⟨z,its,n,r,hl,e⟩:=I.Vr hH
 refine call_meets F.slot_list_append ⟨_,e,rfl⟩ F.entry_list_append (F.args_list_append_2 _ _) (PySem.list_append l its.toArray n u (by rw [List.size_toArray]; omega)) ⟨e,?_⟩
 refine ⟨.non,_,I.Z3 (its':=its++[u]) hH e (by simp) (r.append (.cons ru .nil)) ?_,rfl,q⟩
 rw [List.length_append,List.length_singleton]
 omega
def XH:R2:=fun x y H Q=>∃l b xs zs,x=.ref l∧y=.ref b∧H l=some (.lst xs)∧H b=some (.lst zs)∧xs.length + zs.length≤sizeLine∧∀p,H p=none→Q (.ref p) (upd H p (.lst (xs++zs)))
theorem Vs:jQ X (binaryOp .Add) XH:=by
 intro pins s σ H x y v u Q I rx ry h
 obtain ⟨l,b,xs,zs,rfl,rfl,hH,hB,hz,q⟩:=h
 cases rx
 cases ry
 obtain ⟨z,its,n,r,hl,e⟩:=I.Vr hH
 obtain ⟨z2,its2,n2,r2,hl2,e2⟩:=I.Vr hB
 refine PySem.P.add_list e e2 ?_ (by rw [List.size_toArray,List.size_toArray]; omega)
 have ea:its.toArray++its2.toArray=(its++its2).toArray:=by simp
 rw [ea]
 exact ⟨.ref _,_,I.Z4 (t':=s.toks) (r.append r2) (by rw [List.length_append]; omega),rfl,q _ I.fresh⟩
end
section
variable {prog:Program} {w:World} {A:Around} {E:Value→Shared→Prop} {s:Shared}
set_option maxRecDepth 100000 in
end
section
variable {X:Cx}
end
end L2
namespace L2
open PySem PySem.Spec PyProof.Rows
section
variable {κ:Type} [DecidableEq κ]
def qj (kvs:List (κ×V)) (k:κ):Option V:=(kvs.find? fun kv=>decide (kv.1=k)).map (·.2)
def putK (kvs:List (κ×V)) (k:κ) (v:V):List (κ×V):=
 if (kvs.any fun kv=>decide (kv.1=k))=true then kvs.map (fun kv=>if kv.1=k then (kv.1,v) else kv) else kvs++[(k,v)]
def Tw (kvs:List (κ×V)) (k:κ):List (κ×V):=kvs.filter fun kv=>decide (kv.1≠k)
theorem rK {p:κ×V} {r:List (κ×V)} {k:κ} (e:p.1=k):qj (p::r) k=some p.2:=by simp [qj,List.find?_cons,e]
theorem rM {p:κ×V} {r:List (κ×V)} {k:κ} (e:¬p.1=k):qj (p::r) k=qj r k:=by simp [qj,List.find?_cons,e]
theorem Cw (k:κ):∀kvs:List (κ×V),(kvs.any fun kv=>decide (kv.1=k))=(qj kvs k).isSome
 | []=>rfl
 | p::r=>by
  rw [List.any_cons]
  by_cases e:p.1=k
  ·simp only [rK e,decide_eq_true e,Bool.true_or,Option.isSome_some]
  ·rw [rM e,decide_eq_false e,Bool.false_or]; exact Cw k r
theorem o6 (kvs:List (κ×V)) (k:κ) (v:V):(putK kvs k v).length≤kvs.length + 1:=by
 unfold putK
 split
 ·rw [List.length_map]; omega
 ·rw [List.length_append,List.length_cons,List.length_nil]; omega
theorem tL.mO {o:Option V} {u:Option Value} (r:tL o u):o.isSome=u.isSome:=by
 cases o with
 | none=>cases u with
  | none=>rfl
  | some _=>exact (show False from r).elim
 | some _=>cases u with
  | none=>exact (show False from r).elim
  | some _=>rfl
theorem tL.getD {o:Option V} {u:Option Value} {d:V} {d':Value} (r:tL o u) (rd:RelV d d'):RelV (o.getD d) (u.getD d'):=by
 cases o with
 | none=>cases u with
  | none=>exact rd
  | some _=>exact (show False from r).elim
 | some _=>cases u with
  | none=>exact (show False from r).elim
  | some _=>exact r
theorem KV.val {kvs:List (κ×V)} {vs:List (κ×Value)} (r:KV kvs vs) (k:κ):tL (qj kvs k) (valueAt vs k):=by
 unfold KV at r
 induction r with
 | nil=>exact True.intro
 | @cons p q ps qs h t ih=>
  obtain ⟨h1,h2⟩:=h
  by_cases e:p.1=k
  ·have e':q.1=k:=h1.symm.trans e
   have b:valueAt (q::qs) k=some q.2:=by simp [valueAt,List.find?_cons,e']
   rw [rK e,b]; exact h2
  ·have e':¬q.1=k:=fun z=>e (h1.trans z)
   have b:valueAt (q::qs) k=valueAt qs k:=by simp [valueAt,List.find?_cons,e']
   rw [rM e,b]; exact ih
theorem KV.any {kvs:List (κ×V)} {vs:List (κ×Value)} (r:KV kvs vs) (k:κ):(kvs.any fun kv=>decide (kv.1=k))=vs.any fun kv=>decide (kv.1=k):=by
 unfold KV at r
 induction r with
 | nil=>rfl
 | cons h t ih=>rw [List.any_cons,List.any_cons,ih,h.1]
theorem KV.repl {kvs:List (κ×V)} {vs:List (κ×Value)} (r:KV kvs vs) (k:κ) {y:V} {u:Value} (ry:RelV y u):
  KV (kvs.map fun kv=>if kv.1=k then (kv.1,y) else kv) (vs.map fun kv=>if kv.1=k then (kv.1,u) else kv):=by
 unfold KV at r ⊢
 induction r with
 | nil=>exact .nil
 | @cons p q ps qs h t ih=>
  rw [List.map_cons,List.map_cons]
  refine .cons ?_ ih
  obtain ⟨h1,h2⟩:=h
  by_cases e:p.1=k
  ·rw [if_pos e,if_pos (h1.symm.trans e)]; exact ⟨h1,ry⟩
  ·rw [if_neg e,if_neg (fun z=>e (h1.trans z))]; exact ⟨h1,h2⟩
theorem KV.put {kvs:List (κ×V)} {vs:List (κ×Value)} (r:KV kvs vs) (k:κ) {y:V} {u:Value} (ry:RelV y u):KV (putK kvs k y) (stored vs k u):=by
 unfold putK stored
 rw [r.any k]
 by_cases e:(vs.any fun kv=>decide (kv.1=k))=true
 ·rw [if_pos e,if_pos e]; exact r.repl k ry
 ·rw [if_neg e,if_neg e]; exact Paired.snoc r ⟨rfl,ry⟩
theorem KV.drop {kvs:List (κ×V)} {vs:List (κ×Value)} (r:KV kvs vs) (k:κ):KV (Tw kvs k) (without vs k):=by
 unfold KV at r ⊢
 unfold Tw without
 induction r with
 | nil=>exact .nil
 | @cons p q ps qs h t ih=>
  obtain ⟨h1,h2⟩:=h
  rw [List.filter_cons,List.filter_cons]
  by_cases e:p.1=k
  ·have a:¬decide (p.1≠k)=true:=by simp [e]
   have b:¬decide (q.1≠k)=true:=by simp [h1.symm.trans e]
   rw [if_neg a,if_neg b]; exact ih
  ·have e':¬q.1=k:=fun z=>e (h1.trans z)
   have a:decide (p.1≠k)=true:=by simp [e]
   have b:decide (q.1≠k)=true:=by simp [e']
   rw [if_pos a,if_pos b]; exact .cons ⟨h1,h2⟩ ih
theorem KV.keys {kvs:List (κ×V)} {vs:List (κ×Value)} (r:KV kvs vs):kvs.map (·.1)=vs.map (·.1):=by
 unfold KV at r
 induction r with
 | nil=>rfl
 | cons h t ih=>rw [List.map_cons,List.map_cons,ih,h.1]
theorem KV.length {kvs:List (κ×V)} {vs:List (κ×Value)} (r:KV kvs vs):kvs.length=vs.length:=Paired.length r
end
theorem vX {P:Program} {w:World} {k:Key} {u:Value} (r:RelV (kV k) u):(dJ P w).is k u=true:=by
 cases k with
 | inl i=>obtain ⟨t,e⟩:=(show ∃t,u=Value.int i t from r); subst e; exact Cm P w i t
 | inr x=>obtain ⟨t,e⟩:=(show ∃t,u=Value.str x t from r); subst e; exact Cp P w x t
theorem yW {P:Program} {w:World}:∀{ks:List Key} {us:List Value},Vals (ks.map kV) us→ItemsAre (dJ P w) ks us
 | [],_,r=>by rw [List.map_nil] at r; cases r; exact .nil
 | k::ks,_,r=>by
  rw [List.map_cons] at r
  cases r with
  | cons h t=>exact .cons (vX h) (yW t)
abbrev KT (H:Hp):List (List Key×V)→List (List Key×Addr×Value)→Prop:=Paired fun p q=>p.1=q.1∧H q.2.1=some (.tup (p.1.map kV))∧RelV p.2 q.2.2
theorem KT.val {H:Hp} {kvs:List (List Key×V)} {xs:List (List Key×Addr×Value)} (r:KT H kvs xs) (k:List Key):tL (qj kvs k) ((atKey xs k).map (·.2)):=by
 induction r with
 | nil=>exact True.intro
 | @cons p q ps qs h t ih=>
  obtain ⟨h1,_,h2⟩:=h
  by_cases e:p.1=k
  ·have e':q.1=k:=h1.symm.trans e
   have b:atKey (q::qs) k=some q.2:=by simp [atKey,List.find?_cons,e']
   rw [rK e,b]; exact h2
  ·have e':¬q.1=k:=fun z=>e (h1.trans z)
   have b:atKey (q::qs) k=atKey qs k:=by simp [atKey,List.find?_cons,e']
   rw [rM e,b]; exact ih
theorem KT.repl {H:Hp} {kvs:List (List Key×V)} {xs:List (List Key×Addr×Value)} (r:KT H kvs xs) (k:List Key) {y:V} {u:Value} (ry:RelV y u):
  KT H (kvs.map fun kv=>if kv.1=k then (kv.1,y) else kv) (xs.map (putAt k u)):=by
 induction r with
 | nil=>exact .nil
 | @cons p q ps qs h t ih=>
  rw [List.map_cons,List.map_cons]
  refine .cons ?_ ih
  obtain ⟨h1,h2,h3⟩:=h
  unfold putAt
  by_cases e:p.1=k
  ·rw [if_pos e,if_pos (h1.symm.trans e)]; exact ⟨h1,h2,ry⟩
  ·rw [if_neg e,if_neg (fun z=>e (h1.trans z))]; exact ⟨h1,h2,h3⟩
theorem KT.put {H:Hp} {kvs:List (List Key×V)} {xs:List (List Key×Addr×Value)} (r:KT H kvs xs) (k:List Key) {b:Addr} {y:V} {u:Value} (hb:H b=some (.tup (k.map kV))) (ry:RelV y u):
  KT H (putK kvs k y) (storedH xs k b u):=by
 have e:(kvs.any fun kv=>decide (kv.1=k))=(atKey xs k).isSome:=by
  rw [Cw,(r.val k).mO,Option.isSome_map]
 unfold putK storedH
 rw [e]
 by_cases q:(atKey xs k).isSome=true
 ·rw [if_pos q,if_pos q]; exact r.repl k ry
 ·rw [if_neg q,if_neg q]; exact Paired.snoc r ⟨rfl,hb,ry⟩
theorem KT.keeps {H H':Hp} {kvs:List (List Key×V)} {xs:List (List Key×Addr×Value)} (r:KT H kvs xs) (ht:∀b ys,H b=some (.tup ys)→H' b=some (.tup ys)):KT H' kvs xs:=
 Paired.Uv r fun _ _ z=>⟨z.1,ht _ _ z.2.1,z.2.2⟩
section
variable {P:Program} {w:World} {H:Hp} {h:Heap} {a:Addr}
theorem Tz {u:HO} (ok:rm P w H h) (e:Rd H a u):cF P w H h a u:=e.ok ok
theorem uI {kvs:List (Key×V)} (ok:rm P w H h) (e:Rd H a (.dK kvs)):kvs.length≤sizeLine∧(a==sysModules)=false∧∃vs,KV kvs vs∧h.DictOf (dJ P w) a vs:=
 show cF P w H h a (.dK kvs) from Tz ok e
theorem TF {kvs:List (Key×V)} (ok:rm P w H h) (e:H a=some (.dK kvs)):kvs.length≤sizeLine∧(a==sysModules)=false∧∃vs,KV kvs vs∧h.DictOf (dJ P w) a vs:=uI ok (.inl e)
theorem tR {ks:List Key} (ok:rm P w H h) (e:H a=some (.tup (ks.map kV))):(tupleKind (dJ P w)).is h ks a:=by
 obtain ⟨_,its,r,o,h1,h2,n,h3⟩:=(show cF P w H h a (.tup (ks.map kV)) from ok a _ e)
 exact ⟨o,its.toArray,n,h1,h2,h3,by simpa using yW r⟩
theorem vY {kvs:List (List Key×V)} (ok:rm P w H h) (e:Rd H a (.dT kvs)):kvs.length≤sizeLine∧(a==sysModules)=false∧
  ∃xs,KT H kvs xs∧h.DictOfH (tupleKind (dJ P w)) a xs:=by
 obtain ⟨z,y,xs,r,o,es,ep,h1,h2,h3,h4,h5⟩:=(show cF P w H h a (.dT kvs) from Tz ok e)
 refine ⟨z,y,xs,r,o,es,ep,h1,h2,h3,h4,fun x hx=>?_,h5⟩
 have all:∀{l:List (List Key×V)} {m:List (List Key×Addr×Value)},KT H l m→∀x∈m,(tupleKind (dJ P w)).is h x.1 x.2.1:=by
  intro l m q
  induction q with
  | nil=>intro x hx; exact nomatch hx
  | @cons p q ps qs hq t ih=>
   intro x hx
   rcases List.mem_cons.mp hx with e | hx
   ·subst e
    exact tR ok (by rw [←hq.1]; exact hq.2.1)
   ·exact ih x hx
 exact all r x hx
theorem TJ {kvs:List (List Key×V)} (ok:rm P w H h) (e:H a=some (.dT kvs)):kvs.length≤sizeLine∧(a==sysModules)=false∧
  ∃xs,KT H kvs xs∧h.DictOfH (tupleKind (dJ P w)) a xs:=vY ok (.inl e)
end
def o7 (H:Hp) (a:Addr) (y:V) (r:Option V):Prop:=
 (∃kvs k,Rd H a (.dK kvs)∧y=kV k∧r=qj kvs k)∨∃kvs k b,Rd H a (.dT kvs)∧y=.ref b∧H b=some (.tup (k.map kV))∧r=qj kvs k
def yJ (H:Hp) (a:Addr) (y v:V) (H':Hp):Prop:=
 (∃kvs k,H a=some (.dK kvs)∧y=kV k∧kvs.length < sizeLine∧H'=upd H a (.dK (putK kvs k v)))∨
 ∃kvs k b,H a=some (.dT kvs)∧y=.ref b∧H b=some (.tup (k.map kV))∧kvs.length < sizeLine∧H'=upd H a (.dT (putK kvs k v))
theorem o7.k {H:Hp} {a:Addr} {kvs:List (Key×V)} {k:Key} (e:H a=some (.dK kvs)):o7 H a (kV k) (qj kvs k):=.inl ⟨kvs,k,.inl e,rfl,rfl⟩
theorem o7.t {H:Hp} {a b:Addr} {kvs:List (List Key×V)} {k:List Key} (e:H a=some (.dT kvs)) (eb:H b=some (.tup (k.map kV))):o7 H a (.ref b) (qj kvs k):=.inr ⟨kvs,k,b,.inl e,rfl,eb,rfl⟩
theorem yJ.k {H:Hp} {a:Addr} {kvs:List (Key×V)} {k:Key} {v:V} (e:H a=some (.dK kvs)) (hl:kvs.length < sizeLine):yJ H a (kV k) v (upd H a (.dK (putK kvs k v))):=.inl ⟨kvs,k,e,rfl,hl,rfl⟩
theorem yJ.t {H:Hp} {a b:Addr} {kvs:List (List Key×V)} {k:List Key} {v:V} (e:H a=some (.dT kvs)) (eb:H b=some (.tup (k.map kV))) (hl:kvs.length < sizeLine):
  yJ H a (.ref b) v (upd H a (.dT (putK kvs k v))):=.inr ⟨kvs,k,b,e,rfl,eb,hl,rfl⟩
section
variable {X:Cx} {pins:List (Addr×Obj)} {σ:St} {H:Hp} {s:Shared} {a:Addr} {y v:V} {u r:Value} {o:Option V} {A:Around} {E:Value→Shared→Prop}
theorem Inv.big (I:Inv X pins σ H s):sysModules < s.heap.objs.size:=by
 have h:mainGlobals < s.heap.objs.size:=(I.mod.glob.keeps I.bk).lt
 exact Nat.lt_trans (by decide) h
theorem Ka {Q:Value→Shared→Prop} (hu:A.units + 1 < cLine) (I:Inv X pins σ H s) (g:o7 H a y (some v)) (ry:RelV y u) (h:∀w' s',Inv X pins σ H s'→RelV v w'→Q w' s'):
  wpAny (model X.prog X.w) A (getItem (.ref a) u) Q E s:=by
 rcases g with ⟨kvs,k,e,ey,l⟩ | ⟨kvs,k,b,e,ey,eb,l⟩
 ·subst ey
  obtain ⟨z,hd,vs,rel,dd⟩:=uI I.hok e
  obtain ⟨w',hw,rw'⟩:=tL.some_of (v:=v) (o:=valueAt vs k) (by rw [l]; exact rel.val k)
  exact wpAny_getItem_of (vX ry) dd.mapOf hw (h w' _ (I.tok _) rw')
 ·subst ey
  cases (show u=Value.ref b from ry)
  obtain ⟨z,hd,xs,rel,dd⟩:=vY I.hok e
  obtain ⟨w',hw,rw'⟩:=tL.some_of (v:=v) (o:=(atKey xs k).map (·.2)) (by rw [l]; exact rel.val k)
  obtain ⟨p,hp,hp2⟩:=Option.map_eq_some_iff.mp hw
  refine wpAny_getItem_heap (tupleKind_room_in1 hu) (tR I.hok eb) dd hp ?_
  rw [hp2]
  exact h w' _ (I.tok _) rw'
theorem XJ {Q:Value→Shared→Prop} (hu:A.units + 1 < cLine) (I:Inv X pins σ H s) (g:o7 H a y o) (ry:RelV y u) (h:∀s',Inv X pins σ H s'→Q (.bool o.isSome) s'):
  wpAny (model X.prog X.w) A (compareOp .In u (.ref a)) Q E s:=by
 rcases g with ⟨kvs,k,e,ey,l⟩ | ⟨kvs,k,b,e,ey,eb,l⟩
 ·subst ey
  obtain ⟨z,hd,vs,rel,dd⟩:=uI I.hok e
  refine wpAny_in_of (vX ry) hd dd.mapOf ?_
  rw [←(rel.val k).mO,←l]
  exact h _ (I.tok _)
 ·subst ey
  cases (show u=Value.ref b from ry)
  obtain ⟨z,hd,xs,rel,dd⟩:=vY I.hok e
  refine wpAny_in_heap (tupleKind_room_in1 hu) (tR I.hok eb) hd dd ?_
  have q:=(rel.val k).mO
  rw [Option.isSome_map] at q
  rw [←q,←l]
  exact h _ (I.tok _)
theorem Ib {Q:Value→Shared→Prop} (hu:A.units + 1 < cLine) (I:Inv X pins σ H s) (g:o7 H a y o) (ry:RelV y u) (h:∀s',Inv X pins σ H s'→Q (.bool (!o.isSome)) s'):
  wpAny (model X.prog X.w) A (compareOp .NotIn u (.ref a)) Q E s:=by
 rcases g with ⟨kvs,k,e,ey,l⟩ | ⟨kvs,k,b,e,ey,eb,l⟩
 ·subst ey
  obtain ⟨z,hd,vs,rel,dd⟩:=uI I.hok e
  refine wpAny_notIn_of (vX ry) hd dd.mapOf ?_
  rw [←(rel.val k).mO,←l]
  exact h _ (I.tok _)
 ·subst ey
  cases (show u=Value.ref b from ry)
  obtain ⟨z,hd,xs,rel,dd⟩:=vY I.hok e
  refine wpAny_notIn_heap (tupleKind_room_in1 hu) (tR I.hok eb) hd dd ?_
  have q:=(rel.val k).mO
  rw [Option.isSome_map] at q
  rw [←q,←l]
  exact h _ (I.tok _)
theorem rN {h':Heap} {t':Nat} {ob:HO} (I:Inv X pins σ H s) (mu:W3 (H a)) (hs:Heap.SameBut a s.heap h') (he:∃q,h'.get? a=some q) (new:cF X.prog X.w (upd H a ob) h' a ob):
  Inv X pins σ (upd H a ob) { s with heap:=h',toks:=t' }:=
 I.write (x:=a) (e:=a) mu (.inl rfl) (fun b q hb z=>(hs.2 b hb).trans z) he new
theorem Gg {P:Program} {w:World} {H':Hp} {h':Heap} {kvs:List (Key×V)} {vs:List (Key×Value)} (z:kvs.length≤sizeLine) (hd:(a==sysModules)=false) (rel:KV kvs vs) (dd:h'.DictOf (dJ P w) a vs):
  cF P w H' h' a (.dK kvs):=⟨z,hd,vs,rel,dd⟩
theorem yX {H':Hp} {Q:Unit→Shared→Prop} (hu:A.units + 1 < cLine) (I:Inv X pins σ H s) (g:yJ H a y v H') (ry:RelV y u) (rv:RelV v r) (h:∀s',Inv X pins σ H' s'→Q () s'):
  wpAny (model X.prog X.w) A (setItem (.ref a) u r) Q E s:=by
 rcases g with ⟨kvs,k,e,ey,l,eH⟩ | ⟨kvs,k,b,e,ey,eb,l,eH⟩
 ·subst ey eH
  obtain ⟨z,hd,vs,rel,dd⟩:=TF I.hok e
  have hz:vs.length≤sizeLine:=by rw [←rel.length]; exact z
  have hl:(putK kvs k v).length≤sizeLine:=by have:=o6 kvs k v; omega
  refine wpAny_setItem_pairs (hsz:=hz) (vX ry) dd fun h' Vt hs=>h _ ?_
  have he:∃q,h'.get? a=some q:=let ⟨q,_,_,hq,_⟩:=Vt; ⟨q,hq⟩
  exact rN I (by rw [e]; exact True.intro) hs he (Gg hl hd (rel.put k rv) Vt)
 ·subst ey eH
  cases (show u=Value.ref b from ry)
  obtain ⟨z,hd,xs,rel,dd⟩:=TJ I.hok e
  have hz:xs.length≤sizeLine:=by rw [←Paired.length rel]; exact z
  have hl:(putK kvs k v).length≤sizeLine:=by have:=o6 kvs k v; omega
  refine wpAny_setItem_heap (hsz:=hz) (tupleKind_room_in1 hu) (tR I.hok eb) dd fun h' Vt hs=>h _ ?_
  obtain ⟨q,es,ep,hq,h2,h3,h4,_,h5⟩:=Vt
  refine rN I (by rw [e]; exact True.intro) hs ⟨q,hq⟩ ⟨hl,hd,_,(rel.put k eb rv).keeps fun c ys ec=>?_,q,es,ep,hq,h2,h3,h4,h5⟩
  rw [aY (Ln ec e (fun z=>nomatch z))]
  exact ec
end
section
variable {X:Cx} {pins:List (Addr×Obj)} {σ:St} {H:Hp} {s:Shared} {a:Addr} {kvs:List (Key×V)} {k:Key} {u:Value} {A:Around} {E:Value→Shared→Prop}
theorem XM {Q:Value→Shared→Prop} (I:Inv X pins σ H s) (e:Rd H a (.dK kvs)) (h:∀t s',Inv X pins σ H s'→Q (.int kvs.length t) s'):wpAny (model X.prog X.w) A (call (.builtin "len") [.ref a]) Q E s:=by
 obtain ⟨z,hd,vs,rel,dd⟩:=uI I.hok e
 refine call_len_dict hd dd (by rw [←rel.length]; rw [sizeLine_eq] at z; omega) ?_
 rw [←rel.length]
 exact h _ _ (I.tok _)
end
theorem Cy {X:Cx} {pins:List (Addr×Obj)} {σ:St} {H:Hp} {s:Shared} {a:Addr} {y:V} {o:Option V} (I:Inv X pins σ H s) (g:o7 H a y o):s.TypeIs (.ref a) "dict":=by
 rcases g with ⟨kvs,k,e,_,_⟩ | ⟨kvs,k,b,e,_,_,_⟩
 ·obtain ⟨_,_,vs,_,dd⟩:=uI I.hok e
  exact dd.typeIs
 ·obtain ⟨_,_,xs,_,dd⟩:=vY I.hok e
  exact dd.typeIs
section
variable {X:Cx} {o i e value:Expr} {pos pos' tpos:Pos} {td ty tv:TE}
end
theorem CG {P:Program} {w:World} {H:Hp} (h:Heap) (hb:sysModules < h.objs.size):cF P w H (h.push { cls:=.type "dict",data:=.dict #[] }) h.objs.size (.dK []):=
 ⟨Nat.zero_le _,beq_eq_false_iff_ne.mpr (Ne.symm (Nat.ne_of_lt hb)),[],.nil,Heap.DictOf.new h⟩
def Vu:TE:=fun _ H Q=>∀p,H p=none→Q (.ref p) (upd H p (.dK []))
section
variable {X:Cx} {pos:Pos}
theorem Mu:PE X (.Dict [] [] pos) Vu:=fun pins s σ H Q I h=>
 wpAny_Dict_empty ⟨.ref s.heap.objs.size,_,I.laid (a:=s.heap.objs.size) (o:=.dK []) (t':=s.toks) (fun _ _ q=>Heap.get?_push_of_some _ q) (Nat.le_refl _) (CG s.heap I.big),rfl,h _ (I.hok.fresh (Nat.le_refl _))⟩
end
structure M1 (X:Cx) (o:Expr) (m:Str) (apos:Pos) (e:Expr) (cpos:Pos):Prop where
 base:attributeBase o m X.env (eval o X.env)=eval o X.env
 few:((backTo cpos (starEach [e] X.env)).all (fun x=>!x.1)&&(backToKw cpos (keywordEach [] X.env)).all (fun x=>x.1.isSome)
  &&decide (([e]:List Expr).length + ([]:List Keyword).length + (if ([]:List Keyword).isEmpty then 0 else 1) < 30))=true
 line:(apos.endLine==cpos.line)=true
 trees:backTo cpos (starEach [e] X.env)=[(false,eval e X.env)]
structure M2 (X:Cx) (o:Expr) (m:Str) (apos:Pos) (e f:Expr) (cpos:Pos):Prop where
 base:attributeBase o m X.env (eval o X.env)=eval o X.env
 few:((backTo cpos (starEach [e,f] X.env)).all (fun x=>!x.1)&&(backToKw cpos (keywordEach [] X.env)).all (fun x=>x.1.isSome)
  &&decide (([e,f]:List Expr).length + ([]:List Keyword).length + (if ([]:List Keyword).isEmpty then 0 else 1) < 30))=true
 line:(apos.endLine==cpos.line)=true
 trees:backTo cpos (starEach [e,f] X.env)=[(false,eval e X.env),(false,eval f X.env)]
def IsD (H:Hp) (a:Addr):Prop:=(∃kvs,Rd H a (.dK kvs))∨∃kvs,Rd H a (.dT kvs)
theorem Vv {X:Cx} {pins:List (Addr×Obj)} {σ:St} {H:Hp} {s:Shared} {a:Addr} (I:Inv X pins σ H s) (d:IsD H a):
  s.TypeIs (.ref a) "dict"∧(∀b,Value.ref a=.ref b→∃ob,s.heap.get? b=some ob∧ob.dict=none)∧(a==sysModules)=false:=by
 rcases d with ⟨kvs,e⟩ | ⟨kvs,e⟩
 ·obtain ⟨_,hd,vs,_,dd⟩:=uI I.hok e
  refine ⟨dd.typeIs,fun b q=>?_,hd⟩
  cases q
  obtain ⟨ob,_,_,h1,h2,_⟩:=dd
  exact ⟨ob,h1,h2.2.1⟩
 ·obtain ⟨_,hd,xs,_,dd⟩:=vY I.hok e
  refine ⟨dd.typeIs,fun b q=>?_,hd⟩
  cases q
  obtain ⟨ob,_,_,h1,h2,_⟩:=dd
  exact ⟨ob,h1,h2.2.1⟩
section
variable {X:Cx} {pins:List (Addr×Obj)} {σ:St} {H:Hp} {s:Shared} {a:Addr} {y d:V} {u r:Value} {o:Option V} {A:Around} {E:Value→Shared→Prop}
theorem Mv {Q:Value→Shared→Prop} (hu:A.units + 1 < cLine) (I:Inv X pins σ H s) (g:o7 H a y o) (ry:RelV y u) (rd:RelV d r) (h:∀w' s',Inv X pins σ H s'→RelV (o.getD d) w'→Q w' s'):
  wpAny (model X.prog X.w) A (call (.builtin "dict.get") [.ref a,u,r]) Q E s:=by
 rcases g with ⟨kvs,k,e,ey,l⟩ | ⟨kvs,k,b,e,ey,eb,l⟩
 ·subst ey
  obtain ⟨z,hd,vs,rel,dd⟩:=uI I.hok e
  refine call_meetsIn PySem.F.slot_dict_get dd.typeIs PySem.F.entry_dict_get (PySem.F.args_dict_get_3 _ _ _) (meets_dict_get_default (dJ X.prog X.w) a (vX ry) hd r) ⟨_,dd.mapOf,h _ _ (I.tok _) ?_⟩
  rw [l]
  exact (rel.val k).getD rd
 ·subst ey
  cases (show u=Value.ref b from ry)
  obtain ⟨z,hd,xs,rel,dd⟩:=vY I.hok e
  refine call_meetsIn PySem.F.slot_dict_get dd.typeIs PySem.F.entry_dict_get (PySem.F.args_dict_get_3 _ _ _) (meetsH_dict_get_default (tupleKind (dJ X.prog X.w)) a b hd r) ⟨tupleKind_room_in1 hu,k,xs,tR I.hok eb,dd,h _ _ (I.tok _) ?_⟩
  rw [l]
  exact (rel.val k).getD rd
end
section
variable {X:Cx} {o e f:Expr} {apos cpos:Pos} {td ty tx:TE}
end
section
variable {X:Cx} {pins:List (Addr×Obj)} {σ:St} {H:Hp} {s:Shared} {a:Addr} {kvs:List (Key×V)} {A:Around} {E:Value→Shared→Prop}
end
section
variable {X:Cx} {pins:List (Addr×Obj)} {σ:St} {H:Hp} {s:Shared} {a:Addr} {y:V} {u:Value} {A:Around} {E:Value→Shared→Prop}
end
end L2
namespace Att
open PySem PySem.W PySem.Calls PyProof.Rows
theorem uX {P:Params} {h:Heap}:∀(ns:List Int) (vs:List Value),WellAll P h vs (ns.map WData.int)→IntsAre vs ns:=by
 intro ns
 induction ns with
 | nil=>
  intro vs w
  rw [List.map_nil] at w
  cases w
  exact .nil
 | cons n ns ih=>
  intro vs w
  rw [List.map_cons] at w
  cases w with
  | cons a b=>
   cases a
   exact .cons _ _ (ih _ b)
theorem Kc {l:OpenLaw} {n:Nat} (hn:l.most=some n) {P:Params} {h:Heap} {args:List WData} {vals:List Value}
  (hpre:l.row.toRowW.claim.pre args=true) (hwl:WellAll P h vals args):
  ∃a vs ns,vals=[Value.ref a]∧args=[WData.list (ns.map WData.int)]∧h.get? a=some { cls:=.type "list",data:=.seq vs.toArray }∧IntsAre vs ns∧ns.length≤n:=by
 have hsh:WShape.hasAll [] args [.list .int]=true:=(pre_splitW hpre).1
 have hc:l.pre.holds [] { args:=args }=true:=(pre_splitW hpre).2
 obtain ⟨d,r,rfl,h1,h2⟩:=hasAllW_cons hsh
 obtain rfl:=hasAllW_nil h2
 obtain ⟨xs,rfl,h3⟩:=hasW_list h1
 obtain ⟨ns,rfl⟩:=items_int h3
 have hlen:ns.length≤n:=by
  unfold OpenLaw.pre at hc
  have h4:(WTm.not (.lt (.lit (.int (n:Int))) (.len (.arg 0)))).holds [] { args:=[.list (ns.map .int)] }=true:=by
   have h4:=(holds_andW hc).1
   rw [hn] at h4
   exact h4
  have h5:=condW_of h4 (w_not (w_lt w_lit (w_len_list (w_arg rfl))))
  rw [List.length_map] at h5
  refine Nat.le_of_not_lt fun q=>?_
  have q':(n:Int) < ((ns.length:Nat):Int):=by omega
  first
   | (rw [decide_eq_true q'] at h5; exact absurd h5 (by decide))
   | (simp at h5; omega)
 cases hwl with
 | cons w1 w2=>
  cases w2
  cases w1 with
  | list ho hall=>exact ⟨_,_,ns,rfl,rfl,ho,uX ns _ hall,hlen⟩
theorem Kd (l:OpenLaw) (args:List WData):l.row.toRowW.claim.post args (.bool true) args=true:=
 postW_of (r:=l.row.toRowW) (X:=(true==true))
  (show WShape.has [] (.bool true) .bool=true by first | rfl | decide | simp [WShape.has,WShape.arms,WShape.armsAll])
  (show (WTm.eq .res (.lit (.bool true))).value [] { args:=args,res:=some (.bool true),after:=args }=some (.bool (true==true)) from w_eq_bool (w_res rfl) w_lit) rfl
theorem CJ {l:OpenLaw} {n:Nat} {q:Program} {loose:List Str} {XP:(Str→Option Value)→Heap→Prop} {YP:World→Heap→Prop} {d:DefRec}
  (hn:l.most=some n) (hdf:d.params.defaults=[])
  (call:∀(w:World) (s₀ s₁:Shared) (mg mb:Str→Option Value) (fa:Addr) (o:Obj) (pm cd doc:Value) (a:Addr) (vs:List Value) (ns:List Int),
   Ground q loose [] XP w s₀ mg mb s₁.heap→YP w s₁.heap→
   s₁.heap.get? fa=some o→o.data=.func (docDef d.name d.params d.body d.scope pm cd doc)→s₁.heap.CodeRec cd d.name→mg d.name=some (.ref fa)→
   s₁.heap.get? a=some { cls:=.type "list",data:=.seq vs.toArray }→IntsAre vs ns→ns.length≤n→s₁.gens=#[]→
   codeAny (model l.prog w) callerA (.call (.ref fa) ⟨[.ref a],[]⟩) (fun r s'=>r=.ok (.ret (.bool true))∧OldK s₁.heap s'.heap∧s'.os=s₁.os∧AllBare s'.gens) s₁):
  WalkO q loose XP YP l.row.toRowW d [] (fun f vs=>PySem.call f vs):=by
 intro w s₀ s₁ mg mb G Y fa o pm cd doc dV kV ho hd hcd hD hmg hg args vals as hpre hlay hrd hwl hlo
 obtain rfl:dV=.none:=Dflts.none hD hdf
 obtain rfl:kV=.none:=Dflts.noKw hD
 obtain ⟨a,vs,ns,rfl,rfl,hobj,hints,hlen⟩:=Kc hn hpre hwl
 refine enter_call (codeAny_mono (call w s₀ s₁ mg mb fa o pm cd doc a vs ns G Y ho (fd_plain hd) hcd hmg hobj hints hlen hg) fun r s' hq=>?_)
 obtain ⟨rfl,h2,h3,h4⟩:=hq
 exact ⟨.inl ⟨.bool true,.bool true,[],rfl,fun _=>rfl,.bool true,Kd l _,fun _=>⟨List.Pairwise.nil,fun _ hm=>(nomatch hm)⟩⟩,h2,h3,h4⟩
section
variable {prog:Program} {w:World} {A:Around} {E:Value→Shared→Prop} {s:Shared} {K:Frag}
def ledger (h:Heap) (L d:Addr):List (Addr×Obj):=(List.range h.objs.size).filterMap fun a=>if a=L∨a=d then none else (h.get? a).map fun o=>(a,o)
end
end Att
namespace L2
open PySem PySem.Spec PyProof.Rows
theorem pU:∀{vs:List Value} {ns:List Int},IntsAre vs ns→Vals (ns.map V.int) vs
 | _,_,.nil=>.nil
 | _,_,.cons n t h=>.cons ⟨t,rfl⟩ (pU h)
def Only (H:Hp):Prop:=∀b,H b=none∨∃o xs,H b=some (.Cj o (.lst xs))
theorem Mw {P:Program} {w:World} {K:PySem.W.Frag} {mg mb:Str→Option Value} {CX:J6} {k:Nat} {fa a:Addr} {fd:FuncData} {x:Str} {sp:Sp} {s₁:Shared} {vs:List Value} {ns:List Int}
  (KX:K.In s₁.heap) (hns:s₁.heap.Ns mainGlobals mg) (hb:s₁.heap.Ns builtinsNs mb) (hbb:∀x:Str,x≠"__name__"→mb x=bootBuiltins x) (hlim:s₁.heap.NoLimit) (hg:s₁.gens=#[])
  (ha:s₁.heap.get? a=some { cls:=.type "list",data:=.seq vs.toArray }) (hi:IntsAre vs ns) (hl:ns.length≤sizeLine) (hr:jh k callerA)
  (F:∀base:Heap,K.In base→base.Ns mainGlobals mg→gJ P w K mg base CX k fa fd [x] sp) (hbind:∀(s:Shared) (u:Value),BindsTo s fd ⟨[u],[]⟩ [(x,u)])
  (hsp:∀H:Hp,Only H→dW K H a (ns.map V.int)→sp [.ref a] H (fun v _=>v=.bl true) fun _ _ _=>False)
  (Z5:∀H e s',CX [] H s₁ (fun _ _ _=>False) e s'→False):
  codeAny (model P w) callerA (.call (.ref fa) ⟨[.ref a],[]⟩) (fun r s'=>r=.ok (.ret (.bool true))∧OldK s₁.heap s'.heap∧s'.os=s₁.os∧AllBare s'.gens) s₁:=by
 have rv:=pU hi
 have lenV:=hi.length
 have core:∀H:Hp,Only H→dW K H a (ns.map V.int)→rm P w H s₁.heap→(∀b,H b≠none→b=a)→(H a≠none→K.lookup a=none)→
   codeAny (model P w) callerA (.call (.ref fa) ⟨[.ref a],[]⟩) (fun r s'=>r=.ok (.ret (.bool true))∧OldK s₁.heap s'.heap∧s'.os=s₁.os∧AllBare s'.gens) s₁:=by
  intro H hO hS hok hA hK
  have Ie:∀{b:Addr} {o:Obj},s₁.heap.get? b=some o→H b=none→(z7 s₁.heap H).get? b=some o:=fun e n=>Lp e n
  have Xx:∀{b:Addr} {o:Obj} {es:Array DictEntry} {ep:Nat},s₁.heap.get? b=some o→o.data=.dict es ep→H b=none:=fun {b o es ep} e d=>by
   cases q:H b with
   | none=>rfl
   | some u=>
    have e':b=a:=hA b (by rw [q]; simp)
    subst e'
    rw [ha] at e; cases e
    have d':Data.seq vs.toArray _=Data.dict es ep:=d
    cases d'
  have Zb:∀{b:Addr} {m:Str→Option Value},s₁.heap.Ns b m→(z7 s₁.heap H).Ns b m:=fun {b m} ⟨o,es,ep,e,d,r⟩=>⟨o,es,ep,Ie e (Xx e d),d,r⟩
  have hKb:K.In (z7 s₁.heap H):=fun b o e=>Ie (KX b o e) (by
   cases q:H b with
   | none=>rfl
   | some u=>
    have e':b=a:=hA b (by rw [q]; simp)
    subst e'
    rw [hK (by rw [q]; simp)] at e; cases e)
  have hM:Mod K mg (z7 s₁.heap H):=⟨hKb,Zb hns,⟨mb,Zb hb,hbb⟩,let ⟨mc,h1,h2⟩:=hlim; ⟨mc,Zb h1,h2⟩⟩
  have e0:FW P w K mg (z7 s₁.heap H) callerA [] s₁ H:=⟨rfl,hM,fun b o e=>Qs e,Nat.le_of_eq (JS _ _),trivial,fun b hb=>absurd (show b∈([]:List Addr) from hb) (by simp),hok,.of_eq hg⟩
  refine codeAny_mono ((F _ hKb (Zb hns)).run callerA [] s₁ H ⟨[.ref a],[]⟩ [.ref a] [.ref a] _ _ hr e0 (hbind s₁ (.ref a)) (.cons rfl .nil) (hsp H hO hS)) fun r s' h=>?_
  cases r with
  | error e=>exact (Z5 H e s' h).elim
  | ok fl=>
   cases fl with
   | next=>exact False.elim h
   | brk=>exact False.elim h
   | cont=>exact False.elim h
   | ret u=>
    obtain ⟨v,H',os,bare,un,hok',r',q⟩:=h
    have q':v=.bl true:=q
    subst q'
    obtain rfl:u=Value.bool true:=r'
    refine ⟨rfl,OldK.of_keep fun b o e=>?_,os,bare⟩
    cases q:H b with
    | none=>exact un.keep b o e q (by intro z; exact absurd (show b∈([]:List Addr) from z) (by simp)) (by simp)
    | some u=>
     rcases hO b with z | ⟨ob,xs,z⟩
     ·rw [q] at z; cases z
     ·have z2:=un.tM b ob _ z
      obtain ⟨e1,_⟩:=hok b _ z
      obtain ⟨e2,_⟩:=hok' b _ z2
      rw [e] at e1; cases e1
      exact e2
 cases hk:K.lookup a with
 | some o=>
  have e:=KX a o hk
  rw [ha] at e
  cases e
  refine core (fun _=>none) (fun _=>.inl rfl) (.inr ⟨_,vs.toArray,_,hk,rfl,rfl,rfl,by rw [List.size_toArray,lenV]; exact hl,by simpa using rv⟩) (fun b u z=>by have z':(none:Option HO)=some u:=z; cases z') (fun b z=>absurd rfl z) fun z=>absurd rfl z
 | none=>
  refine core (fun b=>if b=a then some (.Cj { cls:=.type "list",data:=.seq vs.toArray } (.lst (ns.map V.int))) else none) (fun b=>?_) (.inl (.inr ⟨{ cls:=.type "list",data:=.seq vs.toArray },if_pos rfl⟩)) (fun b u z=>?_) (fun b z=>?_) fun _=>hk
  ·by_cases hb:b=a
   ·exact .inr ⟨_,_,if_pos hb⟩
   ·exact .inl (if_neg hb)
  ·by_cases hb:b=a
   ·have z':=(if_pos hb).symm.trans z
    cases z'
    subst hb
    exact ⟨ha,by rw [List.length_map]; exact hl,vs,_,rv,ha⟩
   ·have z':=(if_neg hb).symm.trans z
    cases z'
  ·by_cases hb:b=a
   ·exact hb
   ·exact absurd (if_neg hb) z
end L2
namespace L2
open PySem PySem.Spec PyProof.Rows
theorem QZ {l:PySem.W.OpenLaw} {n k:Nat} {q:Program} {loose:List Str} {XP:(Str→Option Value)→Heap→Prop} {YP:World→Heap→Prop} {d:DefRec} {K:Params→PySem.W.Frag} {CX:World→J6} {sp:World→Sp} {x:Str}
  (hn:l.most=some n) (hn2:n≤sizeLine) (hdf:d.params.defaults=[]) (hr:jh k callerA)
  (hY:∀(w:World) (h:Heap),YP w h→(K w.params).In h)
  (F:∀(w:World) (mg:Str→Option Value) (fa:Addr) (h:Heap),(K w.params).In h→h.Ns mainGlobals mg→mg d.name=some (.ref fa)→
   ∃fd:FuncData,(∀(s:Shared) (u:Value),BindsTo s fd ⟨[u],[]⟩ [(x,u)])∧
    ∀base:Heap,(K w.params).In base→base.Ns mainGlobals mg→gJ l.prog w (K w.params) mg base (CX w) k fa fd [x] (sp w))
  (hsp:∀(w:World) (H:Hp) (a:Addr) (ns:List Int),ns.length≤n→Only H→dW (K w.params) H a (ns.map V.int)→sp w [.ref a] H (fun v _=>v=.bl true) fun _ _ _=>False)
  (Z5:∀(w:World) (H:Hp) (s:Shared) (e:Value) (s':Shared),CX w [] H s (fun _ _ _=>False) e s'→False):
  PySem.W.WalkO q loose XP YP l.row.toRowW d [] (fun f vs=>PySem.call f vs):=by
 refine Att.CJ hn hdf fun w s₀ s₁ mg mb fa o pm cd doc a vs ns G Y ho hd hcd hmg hobj hints hlen hg=>?_
 have KX:=hY w _ Y
 obtain ⟨fd,hb,hF⟩:=F w mg fa _ KX G.T.g hmg
 exact Mw KX G.T.g G.T.b G.T.builtins G.T.nolimit hg hobj hints (Nat.le_trans hlen hn2) hr hF hb (fun H hO hS=>hsp w H a ns hlen hO hS) fun H e s'=>Z5 w H s₁ e s'
end L2
namespace L2
open PySem PySem.Spec PyProof.Rows
def cW (s:Stmt):Arguments:=match s with
 | .FunctionDef _ a _ _ _ _ _ _ _ _=>a
 | _=>{ posonlyargs:=[],args:=[],vararg:=none,kwonlyargs:=[],kw_defaults:=[],kwarg:=none,defaults:=[] }
def cJ (s:Stmt):List Stmt:=match s with
 | .FunctionDef _ _ b _ _ _ _ _ _ _=>b
 | _=>[]
def aL (s:Stmt):Scope:=match s with
 | .FunctionDef _ _ _ _ _ _ sc _ _ _=>sc
 | _=>{ kind:=.function,names:=[],isGenerator:=false,isCoroutine:=false }
abbrev uY:J6:=fun _ _ _ _ _ _=>False
abbrev E0:XK:=fun _ _ _=>False
theorem XN {X:Cx}:Passes uY X E0:=fun _ _ _ _ _ _ _ h=>h.elim
structure yF (K:PySem.W.Frag) (x qual:Str) (st:Stmt) (f:Addr) (fd:FuncData):Prop where
 ex:∃(oc:Value) (od:Option Addr) (kV doc pm:Value) (an:Option Addr) (cdv ct:Value) (osl:Array (Option Value)),
  fd=PySem.W.fnOf x qual (cW st) (cJ st) (aL st) .none kV doc pm an cdv ct∧K.lookup f=some ⟨oc,od,.func fd,osl⟩∧PySem.W.codeIn K cdv qual=true
 kp:PySem.W.keepIn K (.ref f)=true
section
variable {P:Program} {w:World} {K:PySem.W.Frag} {mg:Str→Option Value} {base:Heap}
theorem yF.ok {x qual:Str} {st:Stmt} {f:Addr} {fd:FuncData} {N ps:List Str} {k:Nat} {sp:Sp} (F:yF K x qual st f fd) (S:dw N ps (aL st)) (len:∀vs H Q E,sp vs H Q E→vs.length=ps.length)
  (hbody:∀(cdv:Value) (A:Around) (outer:List Env) (s:Shared) (H:Hp) (vs:List V) (Q:VK) (E:XK),jh k (A.deeper (envOfC qual (aL st) s.heap.objs.size f cdv))→sp vs H Q E→
   ∃t,uW (FZ uY P w K mg base N qual (aL st) f cdv A outer s H E).Qx (cJ st) t∧t { nx:=fun _ H'=>Q .non H',rt:=Q } (start N vs) H):gJ P w K mg base uY (k + 1) f fd ps sp:=by
 obtain ⟨oc,od,kV,doc,pm,an,cdv,ct,osl,rfl,lk,hcd⟩:=F.ex
 refine Xy lk hcd S len fun A outer s H vs Q E hr hsp=>?_
 obtain ⟨t,h,q⟩:=hbody cdv A outer s H vs Q E hr hsp
 exact ⟨t,h.Qx,q⟩
theorem yF.binds {x qual:Str} {st:Stmt} {f:Addr} {fd:FuncData} {ps:List Str} (F:yF K x qual st f fd)
  (h:∀(kV doc pm:Value) (an:Option Addr) (cdv ct:Value) (us:List Value),us.length=ps.length→bindArgs (PySem.W.fnOf x qual (cW st) (cJ st) (aL st) .none kV doc pm an cdv ct) ⟨us,[]⟩=pure (ps.zip us)):Binds K fd ps []:=by
 obtain ⟨oc,od,kV,doc,pm,an,cdv,ct,osl,rfl,lk,hcd⟩:=F.ex
 exact .all (h kV doc pm an cdv ct)
theorem gZ {x qual:Str} {st:Stmt} {f:Addr} {oc:Value} {od an:Option Addr} {osl:Array (Option Value)} {kV doc pm cdv ct:Value} (l:K.lookup f=some ⟨oc,od,.func (PySem.W.fnOf x qual (cW st) (cJ st) (aL st) .none kV doc pm an cdv ct),osl⟩)
  (c:PySem.W.codeIn K cdv qual=true) (k:PySem.W.keepIn K (.ref f)=true):yF K x qual st f (PySem.W.fnOf x qual (cW st) (cJ st) (aL st) .none kV doc pm an cdv ct):=⟨⟨oc,od,kV,doc,pm,an,cdv,ct,osl,rfl,l,c⟩,k⟩
end
section
variable {X:Cx}
theorem pv (i:Nat) {x:Str} {pos:Pos} (hN:X.N[i]?=some x:=by rfl) (hv:Zu X.env.scope x:=by first | exact Or.inl rfl | exact Or.inr (Or.inl rfl) | exact Or.inr (Or.inr rfl)) (hd:(x==("__debug__":Str))=false:=by decide)
  (hcd:(x==("__classdict__":Str))=false:=by decide):PE X (.Name x pos) (yH i):=Uy hN hv hd hcd
end
theorem Ak {A B:Prop} (h:B):if false=true then A else B:=by
 rw [if_neg Bool.false_ne_true]
 exact h
theorem Al {A B:Prop} (h:A):if true=true then A else B:=by
 rw [if_pos rfl]
 exact h
def bz (H H':Hp):Prop:=∀b o,H b=some o→H' b=some o
theorem bz.refl (H:Hp):bz H H:=fun _ _ h=>h
theorem bz.trans {H H1 H2:Hp} (a:bz H H1) (b:bz H1 H2):bz H H2:=fun c o h=>b c o (a c o h)
theorem bz.free {H H':Hp} (e:bz H H') {l:Addr} (h:H' l=Option.none):H l=Option.none:=by
 cases q:H l with
 | none=>rfl
 | some o=>
  rw [e l o q] at h
  cases h
theorem bz.seq {K:PySem.W.Frag} {H H':Hp} {a:Addr} {xs:List V} (e:bz H H') (h:dW K H a xs):dW K H' a xs:=by
 rcases h with (h | ⟨o,h⟩) | h
 ·exact .inl (.inl (e _ _ h))
 ·exact .inl (.inr ⟨o,e _ _ h⟩)
 ·exact .inr h
section
variable {X:Cx}
theorem Ke:dF X (.builtin "len") (fun xs H Q=>∃a kvs,xs=[V.ref a]∧H a=some (.dK kvs)∧Q (.int kvs.length) H):=by
 intro pins s σ H xs us Q I r h
 obtain ⟨a,kvs,rfl,ha,q⟩:=h
 obtain ⟨u,rfl,ru⟩:=vals1 r
 cases ru
 exact XM I (.inl ha) fun t s' I'=>⟨.int kvs.length,H,I',⟨t,rfl⟩,q⟩
end
section
variable {κ:Type} [DecidableEq κ]
end
end L2
namespace L2
open PySem PySem.Spec PyProof.Rows
def Cx.blk (X:Cx) (N:List Str) (scope:Scope) (cl:List (Str×Addr)) (C:Addr) (s:Shared) (H:Hp) (fp:List Addr):Cx:=
 { X with N:=N,s₀:=s,H₀:=H,env:=compEnvC scope cl C X.env,outer:=X.stack,ex:=fp,fn:=fun _=>false,pn:=[],xe:=fun _ _=>False }
theorem o8 {env:Env} (f:Str×NameKind→List (Str×Addr)→Sem (ForInStep (List (Str×Addr))))
  (hf:∀n k r,f (n,k) r=if k==NameKind.free then (do let c ←cellOf env n; pure (.yield ((n,c)::r))) else pure (.yield r)):
  ∀(names:List (Str×NameKind)) (cs:List (Str×Addr)),(∀y∈names,y.2=.free→∃c,env.cells.lookup y.1=some c)→(∀n c,cs.lookup n=some c→env.cells.lookup n=some c)→
   ∃cl,(forIn names cs f:Sem (List (Str×Addr)))=pure cl∧(∀n c,cl.lookup n=some c→env.cells.lookup n=some c)∧
    ∀n,((∃c,cs.lookup n=some c)∨∃y∈names,y.1=n∧y.2=.free)→∃c,cl.lookup n=some c
 | [],cs,_,h2=>⟨cs,rfl,h2,fun n h=>h.elim id fun ⟨_,hy,_⟩=>nomatch hy⟩
 | (n,k)::r,cs,h1,h2=>by
  rw [List.forIn_cons,hf]
  by_cases hk:k=.free
  ·subst hk
   obtain ⟨c,hc⟩:=h1 (n,.free) List.mem_cons_self rfl
   have hc':env.cells.lookup n=some c:=hc
   have e:cellOf env n=pure c:=by unfold cellOf; rw [hc']
   obtain ⟨cl,q1,q2,q3⟩:=o8 f hf r ((n,c)::cs) (fun y hy=>h1 y (List.mem_cons_of_mem _ hy)) (fun m d hm=>by
    rw [List.lookup_cons] at hm
    by_cases hb:(m==n)=true
    ·rw [hb] at hm
     have:=eq_of_beq hb
     subst this
     cases hm
     exact hc'
    ·rw [Bool.not_eq_true] at hb
     rw [hb] at hm
     exact h2 m d hm)
   refine ⟨cl,?_,q2,fun m hm=>q3 m ?_⟩
   ·rw [if_pos (show (NameKind.free==NameKind.free)=true from rfl),e]
    simp only [pure_bind]
    exact q1
   ·by_cases hb:m=n
    ·subst hb
     exact .inl ⟨c,by simp [List.lookup_cons]⟩
    ·rcases hm with ⟨d,hm⟩ | ⟨y,hy,e1,e2⟩
     ·refine .inl ⟨d,?_⟩
      rw [List.lookup_cons,beq_eq_false_iff_ne.mpr hb]
      exact hm
     ·rcases List.mem_cons.mp hy with rfl | hy
      ·exact absurd e1.symm hb
      ·exact .inr ⟨y,hy,e1,e2⟩
  ·have hb:(k==NameKind.free)=false:=beq_eq_false_iff_ne.mpr hk
   obtain ⟨cl,q1,q2,q3⟩:=o8 f hf r cs (fun y hy=>h1 y (List.mem_cons_of_mem _ hy)) h2
   refine ⟨cl,?_,q2,fun m hm=>q3 m ?_⟩
   ·rw [hb]
    simp only [Bool.false_eq_true,if_false,pure_bind]
    exact q1
   ·rcases hm with hm | ⟨y,hy,e1,e2⟩
    ·exact .inl hm
    ·rcases List.mem_cons.mp hy with rfl | hy
     ·exact absurd e2 hk
     ·exact .inr ⟨y,hy,e1,e2⟩
theorem qD {env:Env} {scope:Scope} (h1:∀y∈scope.names,y.2=.free→∃c,env.cells.lookup y.1=some c):
  ∃cl,closureFor scope env=pure cl∧(∀n c,cl.lookup n=some c→env.cells.lookup n=some c)∧∀y∈scope.names,y.2=.free→∃c,cl.lookup y.1=some c:=by
 unfold closureFor
 obtain ⟨cl,q1,q2,q3⟩:=o8 (env:=env) (fun x r=>if (x.2==NameKind.free)=true then (do let c ←cellOf env x.1; pure (.yield ((x.1,c)::r))) else pure (.yield r)) (fun n k r=>rfl) scope.names [] h1 (fun n c h=>by simp at h)
 have q:=congrArg (fun t:Sem (List (Str×Addr))=>t >>= fun cs=>pure cs) q1
 simp only [pure_bind] at q
 exact ⟨cl,q,q2,fun y hy e=>q3 y.1 (.inr ⟨y,hy,rfl,e⟩)⟩
theorem rO {scope:Scope} {env:Env} {x:Str}:∀{names:List (Str×NameKind)},
  (names.map fun (n,k)=>if (k==NameKind.free&&env.scope.kind==.function&&env.kindOf n==some .cell) then (n,NameKind.cell) else (n,k)).lookup x=
   (names.lookup x).map fun k=>if (k==NameKind.free&&env.scope.kind==.function&&env.kindOf x==some .cell) then NameKind.cell else k
 | []=>rfl
 | (n,k)::r=>by
  have ih:=@rO scope env x r
  show List.lookup x ((if (k==NameKind.free&&env.scope.kind==.function&&env.kindOf n==some .cell)=true then (n,NameKind.cell) else (n,k))::_)=_
  cases hx:x==n with
  | true=>
   have e:=eq_of_beq hx
   subst e
   by_cases hc:(k==NameKind.free&&env.scope.kind==.function&&env.kindOf x==some .cell)=true
   ·rw [if_pos hc]; simp only [List.lookup_cons,beq_self_eq_true,Option.map_some,hc,if_true]
   ·rw [if_neg hc]; simp only [List.lookup_cons,beq_self_eq_true,Option.map_some,hc,if_false]; rfl
  | false=>
   by_cases hc:(k==NameKind.free&&env.scope.kind==.function&&env.kindOf n==some .cell)=true
   ·rw [if_pos hc]; simp only [List.lookup_cons,hx]; exact ih
   ·rw [if_neg hc]; simp only [List.lookup_cons,hx]; exact ih
def frees (js:List Nat) (σ:St):St:=js.map fun j=>(σ[j]?).join
section
variable {X:Cx} {pins:List (Addr×Obj)} {σ:St} {H:Hp} {s s1:Shared} {NT NF:List Str} {js:List Nat} {scope:Scope} {cl:List (Str×Addr)} {fp:List Addr}
structure qu (X:Cx) (NT NF:List Str) (js:List Nat) (scope:Scope):Prop where
 kind:scope.kind=.function
 names:∀y∈scope.names,y.2=.local→scope.names.lookup y.1=some .local
 cell:∀y∈scope.names,y.2≠.cell
 free:∀y∈scope.names,y.2=.free→X.env.scope.names.lookup y.1=some .cell∨X.env.scope.names.lookup y.1=some .free
 len:js.length=NF.length
 fr:∀(k:Nat) (j:Nat) (x:Str),js[k]?=some j→NF[k]?=some x→X.N[j]?=some x∧scope.names.lookup x=some .free
 tg:∀x∈NT,scope.names.lookup x=some .local
 nd:(NT++NF).Nodup
theorem Inv.blk (I:Inv X pins σ H s) (B:qu X NT NF js scope) (q2:∀n c,cl.lookup n=some c→X.env.cells.lookup n=some c) (q3:∀y∈scope.names,y.2=.free→∃c,cl.lookup y.1=some c)
  (hf:∀b∈fp,nD X pins H b) (hlt:∀b∈fp,b < s.heap.objs.size) {m:Str→Option Value} (hns:s1.heap.Ns s.heap.objs.size m) (keep:∀b o,s.heap.get? b=some o→s1.heap.get? b=some o)
  (hos:s1.os=s.os) (hg:AllBare s1.gens):
  Inv (X.blk (NT++NF) scope cl s.heap.objs.size s H fp) [] (List.replicate NT.length none++frees js σ) H s1:=by
 have look:∀x,(X.blk (NT++NF) scope cl s.heap.objs.size s H fp).env.kindOf x=(scope.names.lookup x).map fun k=>if (k==NameKind.free&&X.env.scope.kind==.function&&X.env.kindOf x==some .cell) then NameKind.cell else k:=fun x=>rO (scope:=scope)
 have Vw:∀x,((X.blk (NT++NF) scope cl s.heap.objs.size s H fp).env.kindOf x=some .cell∨(X.blk (NT++NF) scope cl s.heap.objs.size s H fp).env.kindOf x=some .free)→scope.names.lookup x=some .free:=fun x h=>by
  rw [look] at h
  cases e:scope.names.lookup x with
  | none=>rw [e] at h; simp at h
  | some k=>
   rw [e] at h
   by_cases hk:k=.free
   ·rw [hk]
   ·have hb:(k==NameKind.free)=false:=beq_eq_false_iff_ne.mpr hk
    simp only [Option.map_some,hb,Bool.false_and,Bool.false_eq_true,if_false,Option.some.injEq] at h
    rcases h with h | h
    ·subst h
     exact absurd rfl (B.cell _ (PySem.mem_of_lookup e))
    ·exact absurd h hk
 have ltC:∀c x,X.env.cells.lookup x=some c→c < s.heap.objs.size:=fun c x e=>by
  obtain ⟨v,q⟩:=I.cell x c e
  exact q.lt
 refine ⟨⟨I.ok.mod,B.kind,I.ok.glob,I.ok.blt,Nat.le_refl _,fun x y c h1 h2=>I.ok.inj x y c (q2 x c h1) (q2 y c h2),fun x hx=>?_,fun x c h _=>(nomatch (show false=true from h)),I.ok.hd,I.ok.frames,.inl rfl,fun b hb=>⟨Nat.ne_of_lt (hlt b hb),fun x c e=>(hf b hb).2.2.2.2.1 x c (q2 x c e)⟩,I.bs,Nat.le_trans I.ok.Ql I.sz,fun b o e hb=>?_,fun b hb hb2=>?_,I.stack,I.HN⟩,
  hos,hg,Un.kept keep,⟨m,hns,fun i x v h1 h2 h3=>?_⟩,fun x c e=>?_,I.hok.fresh (Nat.le_refl _),fun x c e=>I.oW x c (q2 x c e),fun p hp=>(nomatch (show p∈([]:List (Addr×Obj)) from hp)),I.hok.kept keep,?_⟩
 ·exact q3 _ (PySem.mem_of_lookup (Vw x hx)) rfl
 ·rcases (hf b hb).2.2.2.1 with z | z
  ·exact I.ok.Lq b o e z
  ·exact absurd (Nat.lt_of_lt_of_le (Heap.lt_size e) (Nat.le_trans I.ok.Ql z)) (Nat.lt_irrefl _)
 ·obtain ⟨_,f1,f2,_⟩:=hf b hb
  rcases List.mem_cons.mp (I.vO b hb2) with z | z
  ·exact f1 z
  ·exact f2 z
 ·have h1':(NT++NF)[i]?=some x:=h1
  by_cases hi:i < NT.length
  ·rw [List.getElem?_append_left (by simpa using hi),List.getElem?_replicate] at h2
   split at h2 <;> cases h2
  ·have hi':NT.length≤i:=by omega
   rw [List.getElem?_append_right (by simpa using hi')] at h2
   rw [List.getElem?_append_right hi'] at h1'
   simp only [List.length_replicate] at h2
   unfold frees at h2
   rw [List.getElem?_map] at h2
   cases ej:js[i - NT.length]? with
   | none=>rw [ej] at h2; cases h2
   | some j=>
    rw [ej] at h2
    have h2':(σ[j]?).join=some v:=by simpa using h2
    obtain ⟨g1,g2⟩:=B.fr _ j x ej h1'
    have hj:σ[j]?=some (some v):=by
     cases e:σ[j]? with
     | none=>rw [e] at h2'; cases h2'
     | some o=>rw [e] at h2'; simp at h2'; rw [h2']
    have hk:=B.free _ (PySem.mem_of_lookup g2) rfl
    have hk':X.env.scope.names.lookup x=some .cell∨X.env.scope.names.lookup x=some .free:=hk
    obtain ⟨m0,hn0,hl0⟩:=I.loc
    obtain ⟨u,r,l⟩:=hl0 j x v g1 hj (.inr hk')
    refine ⟨u,r,.inr ⟨?_,?_⟩⟩
    ·rw [look,g2]
     by_cases hc:(NameKind.free==NameKind.free&&X.env.scope.kind==.function&&X.env.kindOf x==some .cell)=true
     ·left
      simp only [Option.map_some,hc,if_true]
     ·right
      simp only [Option.map_some,hc,if_false]
      rfl
    ·rcases l with ⟨k0,_⟩ | ⟨_,c,e,z⟩
     ·have k0':X.env.scope.names.lookup x=some .local:=k0
      rcases hk' with z | z <;> rw [z] at k0' <;> cases k0'
     ·obtain ⟨c',hc'⟩:=q3 _ (PySem.mem_of_lookup g2) rfl
      have hc2:cl.lookup x=some c':=hc'
      have e2:=q2 x c' hc2
      rw [e] at e2
      cases e2
      obtain ⟨o,ho,hd⟩:=z
      exact ⟨c,hc2,o,keep c o ho,hd⟩
 ·obtain ⟨v,o,ho,hd⟩:=I.cell x c (q2 x c e)
  exact ⟨v,o,keep c o ho,hd⟩
 ·show (List.replicate NT.length none++frees js σ).length=(NT++NF).length
  unfold frees
  simp [B.len]
theorem Inv.TQ {N:List Str} {σ':St} {H':Hp} {s':Shared} {HR:List (Addr×Obj)} (I:Inv X pins σ H s) (hf:∀b∈fp,nD X pins H b) (J:Inv (X.blk N scope cl s.heap.objs.size s H fp) HR σ' H' s'):Inv X pins σ H' s':=
 I.call' J.os J.base J.hok J.bare fun b hb=>⟨(hf b hb).2.2.2.1,(hf b hb).2.1,(hf b hb).2.2.2.2.1,(hf b hb).2.2.2.2.2⟩
end
end L2
namespace L2
open PySem PySem.Spec PyProof.Rows
theorem Q0 {α:Type} (a:List α) (x y:α) (b:List α) {n:Nat} (h:a.length=n):(a++x::b).set n y=a++y::b:=by
 subst h
 rw [List.set_append_right _ _ (Nat.le_refl _),Nat.sub_self]
 rfl
inductive rA where
 | one | many (n:Nat)
def TV (K:PySem.W.Frag):rA→V→Hp→List V→Prop
 | .one,x,_,vs=>vs=[x]
 | .many n,x,H,vs=>∃a,x=.ref a∧jz K H a vs∧vs.length=n
def isNm (e:Expr) (x:Str):Prop:=∃pos,e=.Name x pos
def vZ (tg:Expr) (NT:List Str):rA→Prop
 | .one=>∃x,isNm tg x∧NT=[x]
 | .many n=>∃es k pos,tg=.Tuple es k pos∧Paired isNm es NT∧NT.length=n
theorem wg {env:Env}:∀{es:List Expr} {NT:List Str},Paired isNm es NT→assignEach es env=es.map fun e=>(false,assign e env)
 | _,_,.nil=>rfl
 | _,_,.cons ⟨pos,e⟩ t=>by
  subst e
  show (false,assign _ env)::assignEach _ env=_
  rw [wg t]
  rfl
section
variable {X:Cx} {pins:List (Addr×Obj)} {H:Hp} {E:Value→Shared→Prop}
theorem Kf {NT:List Str} {es:List Expr} (p:Paired isNm es NT):∀{pre NF:List Str} {σp fs:St} {s:Shared} {vs:List V} {us:List Value} {Q:Unit→Shared→Prop},
  X.N=pre++NT++NF→X.N.Nodup→(∀x∈NT,X.env.scope.names.lookup x=some .local)→σp.length=pre.length→vs.length=NT.length→
  Inv X pins (σp++(List.replicate NT.length none++fs)) H s→Vals vs us→(∀s',Inv X pins (σp++(vs.map some++fs)) H s'→Q () s')→
  wpAny (model X.prog X.w) X.A (assignInOrder (es.map fun e=>assign e X.env) us) Q E s:=by
 induction p with
 | nil=>
  intro pre NF σp fs s vs us Q hN nd hl hp hv I r q
  cases vs with
  | cons _ _=>simp at hv
  | nil=>
   cases r
   exact assignInOrder_nil (q s I)
 | @cons e x es NT he t ih=>
  intro pre NF σp fs s vs us Q hN nd hl hp hv I r q
  cases vs with
  | nil=>simp at hv
  | cons v vs=>
   cases r with
   | cons r rr=>
    obtain ⟨pos,rfl⟩:=he
    have hx:=hl x List.mem_cons_self
    have hi:X.N[pre.length]?=some x:=by
     rw [hN,List.append_assoc,List.getElem?_append_right (Nat.le_refl _)]
     simp
    refine assignInOrder_cons (wpAny_assign_Name (mJ I nd hi (.inl hx) r (fun s' I'=>?_) (.inr hx)))
    have e1:(σp++(List.replicate (x::NT).length none++fs)).set pre.length (some v)=(σp++[some v])++(List.replicate NT.length none++fs):=by
     exact (Q0 σp none (some v) (List.replicate NT.length none++fs) hp).trans (List.append_cons σp (some v) (List.replicate NT.length none++fs))
    rw [e1] at I'
    refine ih (pre:=pre++[x]) (NF:=NF) (σp:=σp++[some v]) (by rw [hN]; simp) nd (fun y hy=>hl y (List.mem_cons_of_mem _ hy)) (by simp [hp]) (by simpa using hv) I' rr fun s2 I2=>q s2 ?_
    have e2:σp++[some v]++(vs.map some++fs)=σp++((v::vs).map some++fs):=by simp
    rw [e2] at I2
    exact I2
theorem Vx {tg:Expr} {NT NF:List Str} {T:rA} {fs:St} {s:Shared} {v:V} {u:Value} {vs:List V} {Q:Unit→Shared→Prop} (tk:vZ tg NT T) (hN:X.N=NT++NF) (nd:X.N.Nodup) (hc:X.calm=true)
  (hl:∀x∈NT,X.env.scope.names.lookup x=some .local) (I:Inv X pins (List.replicate NT.length none++fs) H s) (r:RelV v u) (hv:TV X.K T v H vs)
  (q:∀s',Inv X pins (vs.map some++fs) H s'→Q () s'):wpAny (model X.prog X.w) X.A (assign tg X.env u) Q E s:=by
 cases T with
 | one=>
  obtain ⟨x,⟨pos,rfl⟩,rfl⟩:=tk
  have hv':vs=[v]:=hv
  subst hv'
  have hx:=hl x List.mem_cons_self
  exact wpAny_assign_Name (mJ I nd (i:=0) (by rw [hN]; rfl) (.inl hx) r (fun s' I'=>q s' I') (.inr hx))
 | many n=>
  obtain ⟨es,k,pos,rfl,p,hn⟩:=tk
  obtain ⟨a,rfl,hq,hlen⟩:=hv
  cases r
  obtain ⟨its,rv,ht,hz⟩:=I.tuple hq
  have e:=wg (env:=X.env) p
  have hpl:=p.length
  refine assign_Tuple_tuple (I.ok.hd hc) ht (by rw [e]; simp only [List.length_map,List.size_toArray]; rw [←rv.length]; omega) (by rw [e]; simp) fun h' hx=>?_
  have I1:Inv X pins (List.replicate NT.length none++fs) H { s with heap:=h' }:=I.kept (t':=s.toks) fun b o e=>hx b o (Nat.ne_of_lt (Heap.lt_size e)) e
  rw [e,List.map_map]
  exact Kf p (pre:=[]) (σp:=[]) (by rw [hN]; rfl) nd hl rfl (by omega) I1 (by simpa using rv) q
end
def turnOf (target iter:Expr) (ifs:List Expr) (it:Value) (env:Env) (emit:Sem Unit) (more:Sem PySem.Fin):Sem PySem.Fin:=do
 standAt iter.pos
 match ←pyNext it with
 | none=>pure (.done .next)
 | some v=>
  letOwnedTupleGo target it v
  assign target env v
  let mut ok:=true
  for c in ifs do
   if ok then ok ←isTrue c env (eval c env)
  if ok then emit
  more
theorem Gh (elt target iter:Expr) (ifs:List Expr) (scope:Scope) (pos:Pos) (it acc:Value) (env:Env):
  compTurn (.ListComp elt [⟨target,iter,ifs,0⟩] scope pos) 0 it acc env=turnOf target iter ifs it env (do let _ ←call (.builtin "list.append") [acc,←eval elt env]) (again (.compLoop (.ListComp elt [⟨target,iter,ifs,0⟩] scope pos) 0 it acc env)):=by rfl
theorem Gi (kx vx target iter:Expr) (ifs:List Expr) (scope:Scope) (pos:Pos) (it:Value) (D:Addr) (env:Env):
  compTurn (.DictComp kx vx [⟨target,iter,ifs,0⟩] scope pos) 0 it (.ref D) env=turnOf target iter ifs it env (do
      let kv ←eval kx env
      let vv ←holding [kv] (eval vx env)
      standAt { kx.pos with endLine:=vx.pos.endLine,endCol:=vx.pos.endCol }
      holding [kv,vv] (dictSet D kv vv)) (again (.compLoop (.DictComp kx vx [⟨target,iter,ifs,0⟩] scope pos) 0 it (.ref D) env)):=by rfl
def Kg (X:Cx) (ifs:List Expr) (t:TT):Prop:=
 ∀(pins:List (Addr×Obj)) (s:Shared) (σ:St) (H:Hp) (Q:Bool→Hp→Prop),Inv X pins σ H s→t σ H Q→
  wpAny (model X.prog X.w) X.A (forIn ifs true fun c r=>if r=true then do let ok ←isTrue c X.env (eval c X.env); pure (ForInStep.yield ok) else pure (ForInStep.yield r)) (TP X pins σ Q) X.xe s
def Z6:TT:=fun _ H Q=>Q true H
theorem Q3 {X:Cx}:Kg X [] Z6:=fun _ _ _ H _ I h=>wpAny_tests_nil ⟨H,I,h⟩
theorem Q4 {X:Cx} {c:Expr} {t:TT} (h:PT X c t):Kg X [c] t:=fun pins s σ H Q I q=>wpAny_tests_one (h pins s σ H Q I q)
abbrev TM:=St→Hp→(Hp→Prop)→Prop
def PM (X:Cx) (emit:Sem Unit) (t:TM):Prop:=
 ∀(pins:List (Addr×Obj)) (s:Shared) (σ:St) (H:Hp) (Q:Hp→Prop),Inv X pins σ H s→t σ H Q→
  wpAny (model X.prog X.w) X.A emit (fun _ s'=>∃H',Inv X pins σ H' s'∧Q H') X.xe s
def Am (D:Addr) (te:TE):TM:=fun σ H Q=>te σ H fun y H1=>∃xs,H1 D=some (.lst xs)∧xs.length < sizeLine∧Q (upd H1 D (.lst (xs++[y])))
theorem Kh {X:Cx} {D:Addr} {elt:Expr} {te:TE} (he:PE X elt te):PM X (do let _ ←call (.builtin "list.append") [.ref D,←eval elt X.env]) (Am D te):=by
 intro pins s σ H Q I h
 refine wpAny_bind (eZ (he pins s σ H _ I h) fun v s1 ⟨y,H1,I1,r1,xs,hD,hz,q⟩=>?_)
 refine wpAny_bind (eZ (yV (X:=X) pins s1 σ H1 (.ref D) [y] (.ref D) [v] (fun _ H'=>Q H') I1 rfl (.cons r1 .nil) ⟨D,xs,y,rfl,rfl,hD,hz,q⟩) fun _ s2 ⟨_,H2,I2,_,q2⟩=>wpAny_pure ⟨H2,I2,q2⟩)
def Mx (K:PySem.W.Frag) (T:rA) (ts:TT) (em:TM) (fs:St) (J:It) (H0:Hp) (done:Hp→Prop):Prop:=
 ∃W:Nat→Nat→Hp→Prop,(∃m,W 0 m H0)∧∀i m H,W i m H→
  (J.stop i H∧done H)∨(J.go i H∧∀x H',J.Qm i H x H'→∃vs,TV K T x H' vs∧
   ts (vs.map some++fs) H' fun b H2=>if b=true then em (vs.map some++fs) H2 fun H3=>∃m',m' < m∧W (i + 1) m' H3 else ∃m',m' < m∧W (i + 1) m' H2)
section
variable {X:Cx} {NT NF:List Str} {tg iter e:Expr} {ifs:List Expr} {T:rA} {ts:TT} {em:TM} {emit:Sem Unit} {acc:Value} {fp:List Addr} {it:Addr} {J:It} {tn:Nat→Heap→Prop}
theorem My {fs:St} {vs:List V} {pins:List (Addr×Obj)} {H:Hp} {s:Shared} (hv:vs.length=NT.length) (I:Inv X pins (vs.map some++fs) H s):Inv X pins (List.replicate NT.length none++fs) H s:=
 I.weak (by simp [hv]) fun i v h=>by
  by_cases hi:i < NT.length
  ·rw [List.getElem?_append_left (by simpa using hi),List.getElem?_replicate] at h
   split at h <;> cases h
  ·rw [List.getElem?_append_right (by simp; omega)] at h ⊢
   simpa [hv] using h
theorem TV.len {tg:Expr} {K:PySem.W.Frag} {x:V} {H:Hp} {vs:List V} (tk:vZ tg NT T) (h:TV K T x H vs):vs.length=NT.length:=by
 cases T with
 | one=>obtain ⟨y,_,rfl⟩:=tk; rw [show vs=[x] from h]; rfl
 | many n=>obtain ⟨_,_,_,_,_,e⟩:=tk; obtain ⟨_,_,_,e'⟩:=h; omega
theorem CN {R:Result→Shared→Prop} {fs:St} {H:Hp} {s:Shared} {done:Hp→Prop} (hx:X.xe=fun _ _=>False) (hT:compTurn e 0 (.ref it) acc X.env=turnOf tg iter ifs (.ref it) X.env emit (again (.compLoop e 0 (.ref it) acc X.env)))
  (hq:(Code.compLoop e 0 (.ref it) acc X.env).isFrame=false) (hqu:(Code.compLoop e 0 (.ref it) acc X.env).quiet=true) (hA:X.A.under (Code.compLoop e 0 (.ref it) acc X.env)=X.A)
  (tk:vZ tg NT T) (hN:X.N=NT++NF) (nd:X.N.Nodup) (hc:X.calm=true) (hl:∀x∈NT,X.env.scope.names.lookup x=some .local)
  (hts:Kg X ifs ts) (hem:PM X emit em) (TT:Turn X.prog X.w X.K tg J fp it tn) (hf:∀b∈fp,nD X [] H b) (I:Inv X [] (List.replicate NT.length none++fs) H s) (st:tn 0 s.heap) (hb:Mx X.K T ts em fs J H done)
  (hR:∀H' s' σ',Inv X [] σ' H' s'→done H'→R (.ok .next) s'):
  codeAny (model X.prog X.w) X.A (.compLoop e 0 (.ref it) acc X.env) R s:=by
 obtain ⟨W,⟨m0,w0⟩,turn⟩:=hb
 have stat:∀{H':Hp},(∀b∈fp,H' b=none)→∀b∈fp,nD X [] H' b:=fun hn b hb=>⟨hn b hb,(hf b hb).2⟩
 have noE:∀{α:Type} {t:Sem α} {Q:α→Shared→Prop} {E:Value→Shared→Prop} {s:Shared},wpAny (model X.prog X.w) X.A t Q (fun _ _=>False) s→wpAny (model X.prog X.w) X.A t Q E s:=fun h=>wpAny_mono h (fun _ _ z=>z) fun _ _ z=>z.elim
 have noX:∀{α:Type} {t:Sem α} {Q:α→Shared→Prop} {E:Value→Shared→Prop} {s:Shared},wpAny (model X.prog X.w) X.A t Q X.xe s→wpAny (model X.prog X.w) X.A t Q E s:=fun h=>noE (by rw [hx] at h; exact h)
 refine codeAny_loop hqu (fun n s'=>∃i H',Inv X [] (List.replicate NT.length none++fs) H' s'∧tn i s'.heap∧(∀b∈fp,H' b=none)∧W i n H') ?_ m0 ⟨0,H,I,st,fun b hb=>(hf b hb).1,w0⟩
 rintro n s3 ⟨i,H3,I3,st3,Xi,w3⟩
 rw [hA]
 show wpAny _ X.A (if (Code.compLoop e 0 (.ref it) acc X.env).isFrame=true then (compTurn e 0 (.ref it) acc X.env).onRaise (leaving X.env) else (compTurn e 0 (.ref it) acc X.env).onRaise (fun x=>do noteFrame x X.env; theTreesLotGoes x)) _ _ s3
 rw [hq,if_neg Bool.false_ne_true]
 refine wpAny_noted (noE ?_)
 rw [hT]
 unfold turnOf
 refine wpAny_bind (wpAny_standAt (wpAny_bind ?_))
 rcases turn i n H3 w3 with ⟨stop,qn⟩ | ⟨go,step⟩
 ·refine eZ (TT.done X rfl rfl rfl hc i [] s3 _ H3 _ I3 (stat Xi) st3 stop) fun r s4 ⟨hr,I4⟩=>?_
  subst hr
  exact wpAny_pure (hR H3 s4 _ I4 qn)
 ·refine eZ (TT.item X rfl rfl rfl hc i [] s3 _ H3 _ I3 (stat Xi) st3 go) fun r s4 ⟨u,hr,h4⟩=>?_
  subst hr
  refine wpAny_bind (eZ h4 fun _ s5 ⟨x,H5,I5,r5,y5,U8,ZM⟩=>?_)
  have ZP:=I5.pinned (stat ZM) (TT.obj _ _ U8)
  obtain ⟨vs,hv,q5⟩:=step x H5 y5
  have hvl:=TV.len tk hv
  refine wpAny_bind (Vx tk hN nd hc hl ZP r5 hv fun s6 I6=>?_)
  refine wpAny_bind (noX (eZ (hts _ s6 _ H5 _ I6 q5) fun b s7 ⟨H7,I7,q7⟩=>?_))
  have Mz:∀{s8:Shared} {H8:Hp},Inv X ([]++vR fp s5.heap) (vs.map some++fs) H8 s8→(∃m',m' < n∧W (i + 1) m' H8)→
    (Code.compLoop e 0 (.ref it) acc X.env=Code.compLoop e 0 (.ref it) acc X.env)∧∃m,m < n∧∃i H',Inv X [] (List.replicate NT.length none++fs) H' s8∧tn i s8.heap∧(∀b∈fp,H' b=none)∧W i m H':=fun {s8 H8} I8 n8=>by
   obtain ⟨m',hm,w8⟩:=n8
   refine ⟨rfl,m',hm,i + 1,H8,My hvl I8.rE,TT.keep _ _ _ U8 fun b hb o e=>(I8.pin (b,o) (List.mem_append_right _ (List.mem_append_right _ (nF hb e)))).1,fun b hb=>?_,w8⟩
   obtain ⟨o,e,d⟩:=TT.obj _ _ U8 b hb
   exact (I8.pin (b,o) (List.mem_append_right _ (List.mem_append_right _ (nF hb e)))).2.1
  cases b with
  | false=>exact wpAny_pure (Mz I7 q7)
  | true=>exact wpAny_bind (noX (eZ (hem _ s7 _ H7 _ I7 q7) fun _ s8 ⟨H8,I8,q8⟩=>wpAny_pure (Mz I8 q8)))
end
end L2
namespace L2
open PySem PySem.Spec PyProof.Rows
structure Bk where
 cl:List (Str×Addr)
 C:Addr
 s:Shared
 H:Hp
 fp:List Addr
abbrev Cx.bk (X:Cx) (N:List Str) (scope:Scope) (b:Bk):Cx:=X.blk N scope b.cl b.C b.s b.H b.fp
section
variable {X:Cx} {NT NF:List Str} {js:List Nat} {elt kx vx tg iter e:Expr} {ifs:List Expr} {T:rA} {wi:TI} {ts:Bk→TT} {te tk' tv:Bk→TE} {scope:Scope} {pos:Pos}
def Z7 (K:PySem.W.Frag) (wi:TI) (T:rA) (ts:Bk→TT) (te:Bk→TE) (js:List Nat):TE:=fun σ H Q=>wi σ H fun J H1=>∀D,H1 D=none→∀b,Mx K T (ts b) (Am D (te b)) (frees js σ) J (upd H1 D (.lst [])) (Q (.ref D))
theorem MF {pins:List (Addr×Obj)} {σ:St} {s2:Shared} {H2:Hp} {cl:List (Str×Addr)} {it:Addr} {fp:List Addr} {tn:Nat→Heap→Prop} {J:It} {Q:Hp→Prop} {RR:Value→Addr→Result→Shared→Prop} {E:Value→Shared→Prop}
  (B:qu X NT NF js scope) (tk:vZ tg NT T) (hc:X.calm=true)
  (hin:∀b,Kg (X.bk (NT++NF) scope b) ifs (ts b)∧PE (X.bk (NT++NF) scope b) elt (te b))
  (q2:∀n c,cl.lookup n=some c→X.env.cells.lookup n=some c) (q3:∀y∈scope.names,y.2=.free→∃c,cl.lookup y.1=some c)
  (I2:Inv X pins σ H2 s2) (TT:Turn X.prog X.w X.K tg J fp it tn) (st2:tn 0 s2.heap) (f2:∀b∈fp,nD X pins H2 b)
  (q:∀b,Mx X.K T (ts b) (Am s2.heap.objs.size (te b)) (frees js σ) J (upd H2 s2.heap.objs.size (.lst [])) Q)
  (hR:∀C H' s' m,Inv X pins σ H' s'→nD X pins H' C→s'.heap.Ns C m→Q H'→RR (.ref s2.heap.objs.size) C (.ok .next) s'):
  wpAny (model X.prog X.w) X.A (newList []) (fun acc s₃=>wpAny (model X.prog X.w) X.A (newFunctionEnv scope X.env.globals cl [] X.env.qual none .none (some X.env)) (fun cenv s₄=>
   codeAny (model X.prog X.w) X.A (.compStart (.ListComp elt [⟨tg,iter,ifs,0⟩] scope pos) 0 (.ref it) acc { cenv with scope:=relabel scope X.env }) (RR acc cenv.locals) s₄) E s₃) E s2:=by
 refine wpAny_newObj_type ?_
 have hD:H2 s2.heap.objs.size=none:=I2.hok.fresh (Nat.le_refl _)
 have I3:Inv X pins σ (upd H2 s2.heap.objs.size (.lst [])) { s2 with heap:=s2.heap.push { cls:=.type "list",dict:=none,data:=.seq ([]:List Value).toArray } }:=
  I2.laid (t':=s2.toks) (fun b o e=>Heap.get?_push_of_some _ e) (Nat.le_refl _) ⟨Nat.zero_le _,[],0,.nil,Heap.get?_push_size _ rfl⟩
 have hsz:(s2.heap.push { cls:=.type "list",dict:=none,data:=.seq ([]:List Value).toArray }).objs.size=s2.heap.objs.size + 1:=Heap.size_push ..
 refine wpAny_newFunctionEnv B.cell (by intro y hy; simp at hy) (fun h₁ hns₁ hsb₁=>?_) B.kind
 have Vy:∀b∈fp,b < s2.heap.objs.size:=fun b hb=>by
  obtain ⟨o,e,_⟩:=TT.obj 0 _ st2 b hb
  exact Heap.lt_size e
 have f3:∀b∈fp,nD X pins (upd H2 s2.heap.objs.size (.lst [])) b:=fun b hb=>⟨by rw [aY (Nat.ne_of_lt (Vy b hb))]; exact (f2 b hb).1,(f2 b hb).2⟩
 have keep:∀b o,(s2.heap.push { cls:=.type "list",dict:=none,data:=.seq ([]:List Value).toArray }).get? b=some o→h₁.get? b=some o:=fun b o e=>
  hsb₁.extBut b o (Nat.ne_of_lt (Heap.lt_size e)) (Heap.get?_push_of_some _ e)
 have XQ:∀b∈fp,b < (s2.heap.push { cls:=.type "list",dict:=none,data:=.seq ([]:List Value).toArray }).objs.size:=fun b hb=>by have:=Vy b hb; rw [hsz]; exact Nat.lt_succ_of_lt this
 have I4:=I3.blk (s1:={ s2 with heap:=h₁,toks:=s2.toks + ([]:List (Str×Value)).length }) B q2 q3 f3 XQ hns₁ keep rfl I2.bare
 have XR:tn 0 h₁:=TT.keep 0 _ _ st2 fun b _ o e=>keep b o (Heap.get?_push_of_some _ e)
 obtain ⟨i1,i2⟩:=hin ⟨cl,(s2.heap.push { cls:=.type "list",dict:=none,data:=.seq ([]:List Value).toArray }).objs.size,{ s2 with heap:=s2.heap.push { cls:=.type "list",dict:=none,data:=.seq ([]:List Value).toArray } },upd H2 s2.heap.objs.size (.lst []),fp⟩
 have loop:codeAny (model X.prog X.w) X.A (.compLoop (.ListComp elt [⟨tg,iter,ifs,0⟩] scope pos) 0 (.ref it) (.ref s2.heap.objs.size) (compEnvC scope cl (s2.heap.push { cls:=.type "list",dict:=none,data:=.seq ([]:List Value).toArray }).objs.size X.env))
   (RR (.ref s2.heap.objs.size) (s2.heap.push { cls:=.type "list",dict:=none,data:=.seq ([]:List Value).toArray }).objs.size) { s2 with heap:=h₁,toks:=s2.toks + ([]:List (Str×Value)).length }:=by
  refine CN (X:=X.blk (NT++NF) scope cl (s2.heap.push { cls:=.type "list",dict:=none,data:=.seq ([]:List Value).toArray }).objs.size { s2 with heap:=s2.heap.push { cls:=.type "list",dict:=none,data:=.seq ([]:List Value).toArray } } (upd H2 s2.heap.objs.size (.lst [])) fp)
   (T:=T) (fs:=frees js σ) (done:=Q) rfl (Gh elt tg iter ifs scope pos _ _ _) rfl rfl rfl tk rfl B.nd hc (fun x hx=>lookup_relabel_local (B.tg x hx)) i1 (Kh i2) TT (fun b hb=>?_) I4 XR (q _) fun H' s' σ' J' qd=>?_
  ·exact ⟨(f3 b hb).1,Nat.ne_of_lt (XQ b hb),fun hb2=>by
    rcases List.mem_cons.mp (I3.vO b hb2) with z | z
    ·exact (f3 b hb).2.1 z
    ·exact (f3 b hb).2.2.1 z,.inl hb,fun x c e=>(f3 b hb).2.2.2.2.1 x c (q2 x c e),fun p hp=>(nomatch (show p∈([]:List (Addr×Obj)) from hp))⟩
  ·obtain ⟨m,hn,_⟩:=J'.loc
   exact hR _ H' s' m (I3.TQ f3 J') (I3.Fj (Nat.le_refl _) J'.free) hn qd
 exact codeAny_compStart_list loop (TT.self _ 0 _ _ _ XR loop)
theorem XS (B:qu X NT NF js scope) (tk:vZ tg NT T) (hc:X.calm=true) (hi:PI X tg iter wi)
  (hin:∀b,Kg (X.bk (NT++NF) scope b) ifs (ts b)∧PE (X.bk (NT++NF) scope b) elt (te b))
  (hs:∀x,foldedSetIterable iter X.env x=pure x:=by intro _; rfl):PE X (.ListComp elt [⟨tg,iter,ifs,0⟩] scope pos) (Z7 X.K wi T ts te js):=by
 intro pins s σ H Q I h
 obtain ⟨cl,hclos,q2,q3⟩:=qD (env:=X.env) (scope:=scope) fun y hy e=>I.ok.has y.1 (B.free y hy e)
 rw [eval_ListComp]
 refine wpAny_comprehension_free (use:=none) rfl hs hclos B.kind B.names (eZ (hi pins s σ H _ I h) fun v s1 h1=>eZ h1 fun itv s2 ⟨it,fp,tn,J,H2,e,I2,TT,st2,f2,q⟩=>?_)
 subst e
 refine MF (Q:=fun H'=>Q (.ref s2.heap.objs.size) H') (RR:=fun acc C=>compPost (model X.prog X.w) X.A X.xe none (EP X pins σ Q) acc C) B tk hc hin q2 q3 I2 TT st2 f2 (q _ (I2.hok.fresh (Nat.le_refl _))) fun C H' s' m I' fC hn qd=>?_
 refine ⟨m,hn,fun h' sb=>⟨.ref s2.heap.objs.size,H',?_,rfl,qd⟩⟩
 exact I'.turned (t':=s'.toks) (fun b o hb e=>(sb.2 b hb).trans e) fC.1 fC.2.1 fC.2.2.2.1 fC.2.2.2.2.1 fC.2.2.2.2.2
theorem MJ {i:Nat} {y:Str} {pos' spos:Pos} (B:qu X NT NF js scope) (tk:vZ tg NT T) (hc:X.calm=true) (hi:PI X tg iter wi)
  (hin:∀b,Kg (X.bk (NT++NF) scope b) ifs (ts b)∧PE (X.bk (NT++NF) scope b) elt (te b))
  (hsw:swapsWith (.ListComp elt [⟨tg,iter,ifs,0⟩] scope pos) (some (.Name y pos')) spos.line X.env=pure true)
  (hN:X.N.Nodup) (hI:X.N[i]?=some y) (hy:X.env.scope.names.lookup y=some .local)
  (hs:∀x,foldedSetIterable iter X.env x=pure x:=by intro _; rfl):PS X (.Assign [.Name y pos'] (.ListComp elt [⟨tg,iter,ifs,0⟩] scope pos) spos) (JV (Z7 X.K wi T ts te js) (uG i)):=by
 intro pins s σ H D I h
 obtain ⟨cl,hclos,q2,q3⟩:=qD (env:=X.env) (scope:=scope) fun y hy e=>I.ok.has y.1 (B.free y hy e)
 rw [exec_Assign_Name_used _ _ _ _ hsw]
 refine wpAny_bind (wpAny_standAt (wpAny_bind ?_))
 show wpAny _ X.A (do let _ ←comprehension (.ListComp elt [⟨tg,iter,ifs,0⟩] scope pos) scope X.env _ (newList []) false (eval iter X.env) (some (assign (.Name y pos') X.env))) _ _ s
 refine wpAny_bind (wpAny_mono (wpAny_comprehension_free (use:=some (assign (.Name y pos') X.env)) (Q:=fun _ s'=>SP X pins D .next s') rfl hs hclos B.kind B.names
  (eZ (hi pins s σ H _ I h) fun v s1 h1=>eZ h1 fun itv s2 ⟨it,fp,tn,J,H2,e,I2,TT,st2,f2,q⟩=>?_)) (fun _ s' hq=>wpAny_pure (wpAny_pure hq)) fun _ _ e=>e)
 subst e
 refine MF (Q:=fun H'=>D.nx (σ.set i (some (.ref s2.heap.objs.size))) H') (RR:=fun acc C=>compPost (model X.prog X.w) X.A X.xe (some (assign (.Name y pos') X.env)) (fun _ s'=>SP X pins D .next s') acc C) B tk hc hin q2 q3 I2 TT st2 f2 (q _ (I2.hok.fresh (Nat.le_refl _))) fun C H' s' m I' fC hn qd=>?_
 show wpAny _ X.A (assign (.Name y pos') X.env (.ref s2.heap.objs.size)) _ _ _
 refine wpAny_assign_Name (tO I' hN hI (.inl hy) (v:=.ref s2.heap.objs.size) rfl (fun s3 I3 ⟨a,sb,ha⟩=>?_) (.inr hy))
 have Z8:C≠a:=by
  rcases ha with z | z
  ·rw [z]; exact fC.2.1
  ·exact fun w=>fC.2.2.2.2.1 y a z w.symm
 refine ⟨m,hn.sameBut sb Z8,fun h' sb'=>⟨_,H',?_,qd⟩⟩
 exact I3.turned (t':=s3.toks) (fun b o hb e=>(sb'.2 b hb).trans e) fC.1 fC.2.1 fC.2.2.2.1 fC.2.2.2.2.1 fC.2.2.2.2.2
end
end L2
namespace L2
open PySem PySem.Spec PyProof.Rows
def Z9 (z:Str):It:=⟨fun i _=>i < z.cps.size,fun i H x H'=>H'=H∧∃c,z.cps[i]?=some c∧x=.str ⟨#[c]⟩,fun i _=>z.cps.size≤i⟩
theorem MK {P:Program} {w:World} {K:PySem.W.Frag} {tg:Expr} {z:Str} {t:Tok} {ty:String} {it:Addr} (hty:ty="str_ascii_iterator"∨ty="str_iterator") (hgo:∀i u,letOwnedTupleGo tg i u=pure ()):
  Turn P w K tg (Z9 z) [it] it (fun i h=>h.IsStrIter it ty z t i) where
 mem:=by simp
 obj:=fun i h st b hb=>by
  have e:b=it:=by simpa using hb
  subst e
  obtain ⟨o,e,c,d⟩:=st
  exact ⟨o,e,fun v q=>by rw [d] at q; cases q⟩
 keep:=fun i h h' st k=>let ⟨o,ho,r⟩:=st; ⟨o,k it (by simp) o ho,r⟩
 item:=by
  intro X hP hw hK hc i pins s σ H E I hf st hg
  subst hP hw hK
  obtain ⟨f0,f1,f2,f3,f4,f5⟩:=hf it (by simp)
  have hi:i < z.cps.size:=hg
  have W:Walks X.prog X.w X.A it [it] [it] z.cps.size (SignAt z) (fun i h=>h.IsStrIter it ty z t i):=by
   rcases hty with rfl | rfl
   ·exact Walks.strAscii (I.ok.hd hc) it z t
   ·exact Walks.strWide (I.ok.hd hc) it z t
  refine W.item i s _ _ hi st fun v h' tk hv st' kk=>?_
  obtain ⟨c,u,hc',rfl⟩:=hv
  have I1:Inv X pins σ H { s with heap:=h',toks:=tk }:=I.turned (fun b o hb e=>kk b o (by simpa using hb) e) f0 f1 f3 f4 f5
  refine ⟨_,rfl,?_⟩
  rw [hgo]
  exact wpAny_pure ⟨.str ⟨#[c]⟩,H,I1,⟨u,rfl⟩,⟨rfl,c,hc',rfl⟩,st',fun b hb=>(hf b hb).1⟩
 done:=by
  intro X hP hw hK hc i pins s σ H E I hf st hg
  subst hP hw hK
  obtain ⟨f0,f1,f2,f3,f4,f5⟩:=hf it (by simp)
  have hi:z.cps.size≤i:=hg
  rcases hty with rfl | rfl
  ·exact wpAny_pyNext_ascii_end (I.ok.hd hc) st (by simpa using hi) fun h' eb=>⟨rfl,I.turned (t':=s.toks) (fun b o hb e=>eb b o hb e) f0 f1 f3 f4 f5⟩
  ·exact wpAny_pyNext_wide_end (I.ok.hd hc) st (by simpa using hi) fun h' eb=>⟨rfl,I.turned (t':=s.toks) (fun b o hb e=>eb b o hb e) f0 f1 f3 f4 f5⟩
 self:=fun _ _ _ _ _ st h=>by
  rcases hty with rfl | rfl
  ·exact wpAny_pyIter_striter_ascii st h
  ·exact wpAny_pyIter_striter_wide st h
section
variable {X:Cx} {tg:Expr}
def aaa (tl:TE):TI:=fun σ H R=>tl σ H fun x H1=>∃z,x=.str z∧R (Z9 z) H1
theorem MN {l:Expr} {tl:TE} (hl:PE X l tl) (hgo:∀i u,letOwnedTupleGo tg i u=pure ():=by intro _ _; rfl):PI X tg l (aaa tl):=by
 intro pins s σ H R I h
 refine eZ (hl pins s σ H _ I h) fun v s1 ⟨x,H1,I1,r1,q1⟩=>?_
 obtain ⟨z,e,q⟩:=q1
 subst e
 obtain ⟨t,rfl⟩:=r1
 have fin:∀(o:Obj) (ty:String),(ty="str_ascii_iterator"∨ty="str_iterator")→Heap.IsStrIter (s1.heap.push o) s1.heap.objs.size ty z t 0→PIE X pins σ tg R (.ref s1.heap.objs.size) { s1 with heap:=s1.heap.push o }:=fun o ty hty st=>by
  refine ⟨s1.heap.objs.size,[s1.heap.objs.size],_,_,H1,rfl,I1.kept (t':=s1.toks) fun b o e=>Heap.get?_push_of_some _ e,MK hty hgo,st,fun b hb=>?_,q⟩
  have e:b=s1.heap.objs.size:=by simpa using hb
  subst e
  exact I1.Fj (Nat.le_refl _) (I1.hok.fresh (Nat.le_refl _))
 cases ha:z.cps.all (· < 128)
 ·exact wpAny_pyIter_wide ha (fin _ _ (.inr rfl) ⟨_,Heap.get?_push_size _ rfl,rfl,rfl⟩)
 ·exact wpAny_pyIter_ascii ha (fin _ _ (.inl rfl) ⟨_,Heap.get?_push_size _ rfl,rfl,rfl⟩)
theorem Kl:jQ X (compareOp .LtE) (fun x y H Q=>∃i j,x=.str i∧y=.str j∧Q (.bl (!(decide (j.cps.toList < i.cps.toList)))) H):=by
 intro pins s σ H x y v u Q I rx ry h
 obtain ⟨i,j,rfl,rfl,q⟩:=h
 obtain ⟨t,rfl⟩:=rx
 obtain ⟨t',rfl⟩:=ry
 exact PySem.P.le_str (bU I q rfl)
theorem qF:∀{ys:List Str} {us:List Value},Vals (ys.map V.str) us→StrsAre us ys
 | [],_,h=>by cases h; exact .nil
 | y::ys,_,h=>by
  cases h with
  | cons r rr=>
   obtain ⟨t,rfl⟩:=r
   exact .cons y t (qF rr)
theorem Q5:WR X "str.join" (fun x xs H Q=>∃z p ys,x=.str z∧xs=[.ref p]∧dW X.K H p (ys.map V.str)∧(ys.map (·.length)).sum + ys.length * z.length≤16777216∧Q (.str (Txt.join z ys)) H):=by
 intro pins s σ H x xs v us Q I rx r h
 obtain ⟨z,p,ys,rfl,rfl,hp,hz,q⟩:=h
 obtain ⟨t,rfl⟩:=rx
 obtain ⟨u,rfl,ru⟩:=vals1 r
 cases ru
 obtain ⟨its,rv,pl,_⟩:=I.list hp
 exact join_list pl.isList (by simpa using qF rv) hz fun t' k=>⟨.str _,H,I.tok _,⟨_,rfl⟩,q⟩
end
end L2
namespace L2
open PySem PySem.Spec PyProof.Rows
section
variable {X:Cx}
theorem part_of {v:Value} {o:Option Int} (h:IsPart v o):∃l:Option (Int×Tok),v=partValue l∧l.map (·.1)=o:=by
 cases h with
 | none=>exact ⟨none,rfl,rfl⟩
 | int i t=>exact ⟨some (i,t),rfl,rfl⟩
theorem Vz:QT X (fun x lo hi H Q=>∃z,x=.str z∧z.length≤sizeLine∧Q (.str (Txt.slice z lo hi)) H):=by
 intro pins s σ H x v vl vu lo hi sl Q I rx hs pl pu h
 obtain ⟨z,rfl,hz,q⟩:=h
 obtain ⟨t,rfl⟩:=rx
 obtain ⟨l,rfl,rfl⟩:=part_of pl
 obtain ⟨u,rfl,rfl⟩:=part_of pu
 refine ⟨"str",_,F.slot_str_getitem.lookup,typeIs_str s z t,?_⟩
 exact wpAny_getItem_str_slice (l:=l) (u:=u) (st:=none) hs rfl (post_val_or_str ⟨Nat.le_trans (Txt.slice_le z _ _) hz,fun t' k=>⟨.str _,H,I.tok _,⟨t',rfl⟩,q⟩⟩)
theorem CP:∀{bs:List Bool} {us:List Value},Vals (bs.map V.bl) us→us=bs.map Value.bool
 | [],_,h=>by cases h; rfl
 | b::bs,_,h=>by
  cases h with
  | cons r rr=>
   cases r
   rw [CP rr]
   rfl
theorem MP (hc:X.calm=true):dF X (.builtin "all") (fun xs H Q=>∃(p:Addr) (bs:List Bool),xs=[.ref p]∧dW X.K H p (bs.map V.bl)∧Q (.bl (bs.all id)) H):=by
 intro pins s σ H xs us Q I r h
 obtain ⟨p,bs,rfl,hp,q⟩:=h
 obtain ⟨u,rfl,ru⟩:=vals1 r
 cases ru
 obtain ⟨its,rv,pl,_⟩:=I.list hp
 have hl:=pl.isList
 have e0:=CP rv
 subst e0
 have hlt:p < s.heap.objs.size:=by obtain ⟨_,e,_⟩:=hl; exact Heap.lt_size e
 refine call_all_walk (wpAny_pyIter_list hl ?_)
 refine ⟨s.heap.objs.size,[s.heap.objs.size,p],[s.heap.objs.size],(bs.map Value.bool).toArray.size,_,_,fun i=>(bs[i]?).getD true,rfl,Walks.list (A:=X.A.in1) (I.ok.hd hc) _ p (Nat.ne_of_lt hlt) (bs.map Value.bool).toArray,
  ⟨⟨_,Heap.get?_push_size _ rfl,rfl,rfl⟩,hl.push _⟩,fun i v s' Q' E' hP hQ=>?_,fun h' tk hk=>?_⟩
 ·have hP':(bs.map Value.bool)[i]?=some v:=by simpa using hP
  rw [List.getElem?_map] at hP'
  cases e:bs[i]? with
  | none=>rw [e] at hP'; cases hP'
  | some b=>
   rw [e] at hP'
   cases hP'
   simp only [e,Option.getD_some] at hQ
   exact wpAny_truthy_bool hQ
 ·have e:((List.range (bs.map Value.bool).toArray.size).all fun i=>(bs[i]?).getD true)=bs.all id:=by
   have:(bs.map Value.bool).toArray.size=bs.length:=by simp
   rw [this,Bool.eq_iff_iff,List.all_eq_true,List.all_eq_true]
   constructor
   ·intro h b hb
    obtain ⟨i,hi,rfl⟩:=List.getElem_of_mem hb
    have:=h i (List.mem_range.mpr hi)
    simpa [List.getElem?_eq_getElem hi] using this
   ·intro h i hi
    have hi':=List.mem_range.mp hi
    simp only [List.getElem?_eq_getElem hi',Option.getD_some]
    exact h _ (List.getElem_mem hi')
  rw [e]
  refine ⟨.bl _,H,I.kept fun b x e=>hk b x (fun hm=>?_) (Heap.get?_push_of_some _ e),rfl,q⟩
  rw [List.mem_singleton.mp hm] at e
  exact Nat.lt_irrefl _ (Heap.lt_size e)
end
end L2
namespace L2
open PySem PySem.Spec PyProof.Rows
mutual
def RD (K:PySem.W.Frag) (H:Hp):PyData→V→Prop
 | .none,v=>v=.non
 | .bool b,v=>v=.bl b
 | .int i,v=>v=.int i
 | .str x,v=>v=.str x
 | .tuple ds,v=>∃a vs,v=.ref a∧jz K H a vs∧yZ K H ds vs
 | .list ds,v=>∃a vs,v=.ref a∧dW K H a vs∧yZ K H ds vs
 | .dict _,_=>False
def yZ (K:PySem.W.Frag) (H:Hp):List PyData→List V→Prop
 | [],vs=>vs=[]
 | d::ds,vs=>∃v r,vs=v::r∧RD K H d v∧yZ K H ds r
end
theorem jz.same {K:PySem.W.Frag} {H H':Hp} {a:Addr} {xs:List V} (e:∀b ys,H b=some (.tup ys)→H' b=some (.tup ys)) (ef:∀b o u,H b=some (.Cj o u)→H' b=some (.Cj o u)) (h:jz K H a xs):jz K H' a xs:=by
 rcases h with (h | ⟨o,h⟩) | h
 ·exact .inl (.inl (e _ _ h))
 ·exact .inl (.inr ⟨o,ef _ _ _ h⟩)
 ·exact .inr h
mutual
theorem RD.same {K:PySem.W.Frag} {H H':Hp} (e:bz H H'):∀{d:PyData} {v:V},RD K H d v→RD K H' d v
 | .none,_,h=>h
 | .bool _,_,h=>h
 | .int _,_,h=>h
 | .str _,_,h=>h
 | .tuple ds,v,h=>by
  obtain ⟨a,vs,e1,q,r⟩:=h
  exact ⟨a,vs,e1,q.same (fun b ys z=>e _ _ z) (fun b o u z=>e _ _ z),yZ.same e r⟩
 | .list ds,v,h=>by
  obtain ⟨a,vs,e1,q,r⟩:=h
  exact ⟨a,vs,e1,e.seq q,yZ.same e r⟩
theorem yZ.same {K:PySem.W.Frag} {H H':Hp} (e:bz H H'):∀{ds:List PyData} {vs:List V},yZ K H ds vs→yZ K H' ds vs
 | [],_,h=>h
 | d::ds,vs,h=>by
  obtain ⟨v,r,e1,q,t⟩:=h
  exact ⟨v,r,e1,RD.same e q,yZ.same e t⟩
end
mutual
theorem RD.nodict {K:PySem.W.Frag} {H:Hp}:∀{d:PyData} {v:V},RD K H d v→d.hasDict=false
 | .none,_,h=>by simp [PyData.hasDict]
 | .bool _,_,h=>by simp [PyData.hasDict]
 | .int _,_,h=>by simp [PyData.hasDict]
 | .str _,_,h=>by simp [PyData.hasDict]
 | .tuple ds,v,h=>by
  obtain ⟨a,vs,e1,q,r⟩:=h
  simpa [PyData.hasDict] using yZ.nodict r
 | .list ds,v,h=>by
  obtain ⟨a,vs,e1,q,r⟩:=h
  simpa [PyData.hasDict] using yZ.nodict r
theorem yZ.nodict {K:PySem.W.Frag} {H:Hp}:∀{ds:List PyData} {vs:List V},yZ K H ds vs→PyData.hasDictAll ds=false
 | [],_,h=>by simp [PyData.hasDictAll]
 | d::ds,vs,h=>by
  obtain ⟨v,r,e1,q,t⟩:=h
  simp [PyData.hasDictAll,RD.nodict q,yZ.nodict t]
end
section
variable {X:Cx} {pins:List (Addr×Obj)} {σ:St} {H:Hp} {s:Shared}
mutual
theorem RD.reads (I:Inv X pins σ H s):∀{d:PyData} {v:V} {u:Value},RD X.K H d v→RelV v u→∃as,Reads s.heap u d as
 | .none,_,_,h,r=>by
  cases (show _=V.non from h)
  cases r
  exact ⟨_,.none⟩
 | .bool b,_,_,h,r=>by
  cases (show _=V.bl b from h)
  cases r
  exact ⟨_,.bool b⟩
 | .int i,_,_,h,r=>by
  cases (show _=V.int i from h)
  obtain ⟨t,rfl⟩:=r
  exact ⟨_,.int i t⟩
 | .str x,_,_,h,r=>by
  cases (show _=V.str x from h)
  obtain ⟨t,rfl⟩:=r
  exact ⟨_,.str x t⟩
 | .tuple ds,v,u,h,r=>by
  obtain ⟨a,vs,e1,q,t⟩:=h
  subst e1
  cases r
  obtain ⟨its,rv,⟨o,e,c,n,d⟩,_⟩:=I.tuple q
  obtain ⟨as,R⟩:=yZ.reads I t rv
  exact ⟨_,.tuple e c d (by simpa using R)⟩
 | .list ds,v,u,h,r=>by
  obtain ⟨a,vs,e1,q,t⟩:=h
  subst e1
  cases r
  obtain ⟨its,rv,⟨o,n,e,c,_,d⟩,_⟩:=I.list q
  obtain ⟨as,R⟩:=yZ.reads I t rv
  exact ⟨_,.list e c d (by simpa using R)⟩
theorem yZ.reads (I:Inv X pins σ H s):∀{ds:List PyData} {vs:List V} {us:List Value},yZ X.K H ds vs→Vals vs us→∃as,ReadsAll s.heap us ds as
 | [],_,_,h,r=>by
  cases (show _=[] from h)
  cases r
  exact ⟨_,.nil⟩
 | d::ds,vs,us,h,r=>by
  obtain ⟨v,rr,e1,q,t⟩:=h
  subst e1
  cases r with
  | cons r1 r2=>
   obtain ⟨as,R⟩:=RD.reads I q r1
   obtain ⟨bs,R2⟩:=yZ.reads I t r2
   exact ⟨_,.cons R R2⟩
end
end
section
variable {X:Cx}
theorem za (hg:X.A.guards=some []) (hu:X.A.units + 64 < cLine):dF X (.builtin "repr") (fun xs H Q=>∃v d,xs=[v]∧RD X.K H d v∧d.showable=true∧d.depth≤60∧d.shown.length≤sizeLine∧Q (.str d.shown) H):=by
 intro pins s σ H xs us Q I r h
 obtain ⟨v,d,rfl,hd,hs,acq,hz,q⟩:=h
 obtain ⟨u,rfl,ru⟩:=vals1 r
 cases d with
 | none=>
  cases (show v=V.non from hd)
  cases ru
  exact PySem.P.repr_of_none ⟨.str _,H,I.tok _,⟨_,rfl⟩,by simpa [PyData.shown] using q⟩
 | bool b=>
  cases (show v=V.bl b from hd)
  cases ru
  exact PySem.P.repr_of_bool ⟨.str _,H,I.tok _,⟨_,rfl⟩,by simpa [PyData.shown] using q⟩
 | int i=>
  cases (show v=V.int i from hd)
  obtain ⟨t,rfl⟩:=ru
  exact PySem.P.repr_of_int (by simpa [PyData.showable] using hs) ⟨.str _,H,I.tok _,⟨_,rfl⟩,by simpa [PyData.shown] using q⟩
 | str x=>
  cases (show v=V.str x from hd)
  obtain ⟨t,rfl⟩:=ru
  exact PySem.P.repr_of_str ⟨.str _,H,I.tok _,⟨_,rfl⟩,by simpa [PyData.shown] using q⟩ (by simpa [PyData.shown] using hz)
 | dict kvs=>exact hd.elim
 | tuple ds=>
  obtain ⟨as,R⟩:=hd.reads I ru
  obtain ⟨a,vs,e1,_,_⟩:=id hd
  subst e1
  cases ru
  exact repr_of_reads' R hs (PyData.noDict_hsm hd.nodict) hg (by omega) (fun _ _ e=>e) (fun h' u tk hk=>⟨.str _,H,I.kept hk,⟨_,rfl⟩,q⟩) hz
 | list ds=>
  obtain ⟨as,R⟩:=hd.reads I ru
  obtain ⟨a,vs,e1,_,_⟩:=id hd
  subst e1
  cases ru
  exact repr_of_reads' R hs (PyData.noDict_hsm hd.nodict) hg (by omega) (fun _ _ e=>e) (fun h' u tk hk=>⟨.str _,H,I.kept hk,⟨_,rfl⟩,q⟩) hz
end
end L2
namespace L2
open PySem PySem.Spec PyProof.Rows
def MT (Ck:Scope) (N0 NT NF:List Str) (js:List Nat) (scope:Scope):Bool:=
 scope.kind==.function&&scope.names.all (fun y=>!(y.2==.local) || scope.names.lookup y.1==some .local)&&scope.names.all (fun y=>!(y.2==.cell))&&
  scope.names.all (fun y=>!(y.2==.free) || (Ck.names.lookup y.1==some .cell || Ck.names.lookup y.1==some .free))&&js.length==NF.length&&
  (js.zip NF).all (fun p=>N0[p.1]?==some p.2&&scope.names.lookup p.2==some .free)&&NT.all (fun x=>scope.names.lookup x==some .local)&&decide (NT++NF).Nodup
theorem tU.ok {X:Cx} {Ck:Scope} {N0 NT NF:List Str} {js:List Nat} {scope:Scope} (h:MT Ck N0 NT NF js scope=true) (ho:X.env.scope=Ck) (hN:X.N=N0):qu X NT NF js scope:=by
 unfold MT at h
 simp only [Bool.and_eq_true] at h
 obtain ⟨⟨⟨⟨⟨⟨⟨h1,h2⟩,h3⟩,h4⟩,h5⟩,h6⟩,h7⟩,h8⟩:=h
 refine ⟨eq_of_beq h1,fun y hy e=>?_,fun y hy e=>?_,fun y hy e=>?_,by simpa using h5,fun k j x ej ex=>?_,fun x hx=>?_,of_decide_eq_true h8⟩
 ·have:=List.all_eq_true.mp h2 y hy
  rw [e] at this
  simpa using this
 ·have:=List.all_eq_true.mp h3 y hy
  rw [e] at this
  simp at this
 ·have:=List.all_eq_true.mp h4 y hy
  rw [e] at this
  rw [ho]
  simpa using this
 ·have hm:(j,x)∈js.zip NF:=by
   have:(js.zip NF)[k]?=some (j,x):=by
    rw [List.getElem?_zip_eq_some]
    exact ⟨ej,ex⟩
   exact List.mem_of_getElem? this
  have:=List.all_eq_true.mp h6 _ hm
  simp only [Bool.and_eq_true] at this
  rw [hN]
  exact ⟨eq_of_beq this.1,eq_of_beq this.2⟩
 ·exact eq_of_beq (List.all_eq_true.mp h7 x hx)
structure nA (P:Program) (w:World) (K:PySem.W.Frag) (mg:Str→Option Value) (base:Heap) (x:Str) (k:Nat) (ps:List Str) (sp:Sp):Prop where
 ex:∃(f:Addr) (fd:FuncData),mg x=some (.ref f)∧PySem.W.keepIn K (.ref f)=true∧Binds K fd ps []∧gJ P w K mg base uY k f fd ps sp
section
variable {X:Cx} {x:Str} {k:Nat} {ps:List Str} {sp:Sp} {p pos:Pos} {e:Expr} {es:List Expr} {t:TA}
theorem XX (F:nA X.prog X.w X.K X.mg X.base x k ps sp) (hr:jh k X.A) (hg:Gl X x) (ha:PA X (e::es) t) (hdb:(x==("__debug__":Str))=false:=by decide)
  (he:starEach (e::es) X.env=(false,eval e X.env)::starEach es X.env:=by rfl) (hpl:(backTo pos (starEach es X.env)).any (·.1)=false:=by rfl):
  PE X (.Call (.Name x p) (e::es) [] pos) (Mm sp [] E0 t):=by
 obtain ⟨f,fd,h1,h2,h3,h4⟩:=F.ex
 exact QH h4 hr hg h1 h2 h3 .nil XN ha hdb he hpl
theorem CQ:dF X (.builtin "isinstance") (fun xs H Q=>∃x n t b,xs=[x,.ty n]∧oY X.K H x t∧PySem.W.kitOne X.K t (.type n)=some b∧Q (.bl b) H):=by
 intro pins s σ H xs us Q I r h
 obtain ⟨x,n,t,b,rfl,ty,e,q⟩:=h
 obtain ⟨u,u2,rfl,r1,r2⟩:=vals2 r
 cases r2
 exact J5 I r1 ty e fun tk=>⟨.bl b,H,I.tok tk,rfl,q⟩
end
structure Fx (K:PySem.W.Frag) (T:rA) (J:It) (n:Nat) (vs:Nat→List V) (G:Hp→Prop):Prop where
 go:∀i H,i < n→G H→J.go i H
 Qm:∀i H x H',i < n→G H→J.Qm i H x H'→H'=H∧TV K T x H (vs i)
 stop:∀H,G H→J.stop n H
section
variable {K:PySem.W.Frag} {T:rA} {J:It} {n:Nat} {vs:Nat→List V} {G:Hp→Prop} {ts:TT} {te:TE} {fs:St} {H1:Hp} {D:Addr} {done:Hp→Prop}
end
end L2
namespace L2
open PySem PySem.Spec PyProof.Rows
theorem Q6 {n m:Nat} (h:n≤m) (hm:m≤16777216:=by decide):n≤sizeLine:=by rw [sizeLine_eq]; omega
section
variable {K:PySem.W.Frag} {T:rA} {J:It} {n:Nat} {vs:Nat→List V} {G:Hp→Prop} {te:TE} {fs:St} {H1:Hp} {D:Addr} {done:Hp→Prop}
end
section
variable {X:Cx}
theorem WR.r {id:String} {r:V→List V→Hp→VK→Prop} (h:WR X id r):WQ X id r:=h
end
def Ext (p:Addr) (H H':Hp):Prop:=∀b o,H b=some o→b≠p→H' b=some o
theorem Ext.refl (p:Addr) (H:Hp):Ext p H H:=fun _ _ h _=>h
theorem Ext.trans {p:Addr} {H H1 H2:Hp} (a:Ext p H H1) (b:Ext p H1 H2):Ext p H H2:=fun c o h hc=>b c o (a c o h hc) hc
theorem bz.ext {p:Addr} {H H':Hp} (s:bz H H'):Ext p H H':=fun b o h _=>s b o h
theorem Ext.upd {p:Addr} {H:Hp} {o:HO}:Ext p H (upd H p o):=fun b u h hb=>by rw [aY hb]; exact h
theorem bz.upd {p:Addr} {H:Hp} {o:HO} (h:H p=none):bz H (L2.upd H p o):=fun b u e=>by rw [aY (cu e h)]; exact e
end L2
namespace L2
open PySem PySem.Spec PyProof.Rows
def VB (D:Addr) (tk tv:TE):TM:=fun σ H Q=>tk σ H fun y H1=>tv σ H1 fun z H2=>∃kvs k,H2 D=some (.dK kvs)∧y=kV k∧kvs.length < sizeLine∧Q (upd H2 D (.dK (putK kvs k z)))
theorem VD {X:Cx} {D:Addr} {kx vx:Expr} {tk tv:TE} (hu:X.A.units + 1 < cLine) (hk:PE X kx tk) (hv:PE X vx tv):PM X (do
      let kv ←eval kx X.env
      let vv ←holding [kv] (eval vx X.env)
      standAt { kx.pos with endLine:=vx.pos.endLine,endCol:=vx.pos.endCol }
      holding [kv,vv] (dictSet D kv vv)) (VB D tk tv):=by
 intro pins s σ H Q I h
 refine wpAny_bind (eZ (hk pins s σ H _ I h) fun kv s1 ⟨y,H1,I1,r1,q1⟩=>?_)
 refine wpAny_bind (wpAny_holding (eZ (hv pins s1 σ H1 _ I1 q1) fun vv s2 ⟨z,H2,I2,r2,kvs,k,hD,ey,hl,q2⟩=>?_))
 subst ey
 refine wpAny_bind (wpAny_standAt (wpAny_holding ?_))
 obtain ⟨z1,hd,vs,rel,dd⟩:=TF I2.hok hD
 have hz:vs.length≤sizeLine:=by rw [←rel.length]; exact z1
 have hl2:(putK kvs k z).length≤sizeLine:=by have:=o6 kvs k z; omega
 refine wpAny_dictSet_pairs (hsz:=hz) (vX r1) dd fun h' Vt hs=>⟨_,?_,q2⟩
 have he:∃q,h'.get? D=some q:=let ⟨q,_,_,hq,_⟩:=Vt; ⟨q,hq⟩
 exact rN I2 (by rw [hD]; exact True.intro) hs he (Gg hl2 hd (rel.put k r2) Vt)
section
variable {X:Cx} {NT NF:List Str} {js:List Nat} {elt kx vx tg iter e:Expr} {ifs:List Expr} {T:rA} {wi:TI} {ts:Bk→TT} {te tk' tv:Bk→TE} {scope:Scope} {pos:Pos}
def tDC (K:PySem.W.Frag) (wi:TI) (T:rA) (ts:Bk→TT) (tk' tv:Bk→TE) (js:List Nat):TE:=fun σ H Q=>wi σ H fun J H1=>∀D,H1 D=none→∀b,Mx K T (ts b) (VB D (tk' b) (tv b)) (frees js σ) J (upd H1 D (.dK [])) (Q (.ref D))
theorem VF {pins:List (Addr×Obj)} {σ:St} {s2:Shared} {H2:Hp} {cl:List (Str×Addr)} {it:Addr} {fp:List Addr} {tn:Nat→Heap→Prop} {J:It} {Q:Hp→Prop} {RR:Value→Addr→Result→Shared→Prop} {E:Value→Shared→Prop}
  (B:qu X NT NF js scope) (tk:vZ tg NT T) (hc:X.calm=true) (hu:X.A.units + 1 < cLine)
  (hin:∀b,Kg (X.bk (NT++NF) scope b) ifs (ts b)∧PE (X.bk (NT++NF) scope b) kx (tk' b)∧PE (X.bk (NT++NF) scope b) vx (tv b))
  (q2:∀n c,cl.lookup n=some c→X.env.cells.lookup n=some c) (q3:∀y∈scope.names,y.2=.free→∃c,cl.lookup y.1=some c)
  (I2:Inv X pins σ H2 s2) (TT:Turn X.prog X.w X.K tg J fp it tn) (st2:tn 0 s2.heap) (f2:∀b∈fp,nD X pins H2 b)
  (q:∀b,Mx X.K T (ts b) (VB s2.heap.objs.size (tk' b) (tv b)) (frees js σ) J (upd H2 s2.heap.objs.size (.dK [])) Q)
  (hR:∀C H' s' m,Inv X pins σ H' s'→nD X pins H' C→s'.heap.Ns C m→Q H'→RR (.ref s2.heap.objs.size) C (.ok .next) s'):
  wpAny (model X.prog X.w) X.A (newDict) (fun acc s₃=>wpAny (model X.prog X.w) X.A (newFunctionEnv scope X.env.globals cl [] X.env.qual none .none (some X.env)) (fun cenv s₄=>
   codeAny (model X.prog X.w) X.A (.compStart (.DictComp kx vx [⟨tg,iter,ifs,0⟩] scope pos) 0 (.ref it) acc { cenv with scope:=relabel scope X.env }) (RR acc cenv.locals) s₄) E s₃) E s2:=by
 refine wpAny_newObj_type ?_
 have hD:H2 s2.heap.objs.size=none:=I2.hok.fresh (Nat.le_refl _)
 have I3:Inv X pins σ (upd H2 s2.heap.objs.size (.dK [])) { s2 with heap:=s2.heap.push { cls:=.type "dict",dict:=none,data:=.dict #[] } }:=
  I2.laid (t':=s2.toks) (fun b o e=>Heap.get?_push_of_some _ e) (Nat.le_refl _) (CG s2.heap I2.big)
 have hsz:(s2.heap.push { cls:=.type "dict",dict:=none,data:=.dict #[] }).objs.size=s2.heap.objs.size + 1:=Heap.size_push ..
 refine wpAny_newFunctionEnv B.cell (by intro y hy; simp at hy) (fun h₁ hns₁ hsb₁=>?_) B.kind
 have Vy:∀b∈fp,b < s2.heap.objs.size:=fun b hb=>by
  obtain ⟨o,e,_⟩:=TT.obj 0 _ st2 b hb
  exact Heap.lt_size e
 have f3:∀b∈fp,nD X pins (upd H2 s2.heap.objs.size (.dK [])) b:=fun b hb=>⟨by rw [aY (Nat.ne_of_lt (Vy b hb))]; exact (f2 b hb).1,(f2 b hb).2⟩
 have keep:∀b o,(s2.heap.push { cls:=.type "dict",dict:=none,data:=.dict #[] }).get? b=some o→h₁.get? b=some o:=fun b o e=>
  hsb₁.extBut b o (Nat.ne_of_lt (Heap.lt_size e)) (Heap.get?_push_of_some _ e)
 have XQ:∀b∈fp,b < (s2.heap.push { cls:=.type "dict",dict:=none,data:=.dict #[] }).objs.size:=fun b hb=>by have:=Vy b hb; rw [hsz]; exact Nat.lt_succ_of_lt this
 have I4:=I3.blk (s1:={ s2 with heap:=h₁,toks:=s2.toks + ([]:List (Str×Value)).length }) B q2 q3 f3 XQ hns₁ keep rfl I2.bare
 have XR:tn 0 h₁:=TT.keep 0 _ _ st2 fun b _ o e=>keep b o (Heap.get?_push_of_some _ e)
 obtain ⟨i1,i2,i3⟩:=hin ⟨cl,(s2.heap.push { cls:=.type "dict",dict:=none,data:=.dict #[] }).objs.size,{ s2 with heap:=s2.heap.push { cls:=.type "dict",dict:=none,data:=.dict #[] } },upd H2 s2.heap.objs.size (.dK []),fp⟩
 have loop:codeAny (model X.prog X.w) X.A (.compLoop (.DictComp kx vx [⟨tg,iter,ifs,0⟩] scope pos) 0 (.ref it) (.ref s2.heap.objs.size) (compEnvC scope cl (s2.heap.push { cls:=.type "dict",dict:=none,data:=.dict #[] }).objs.size X.env))
   (RR (.ref s2.heap.objs.size) (s2.heap.push { cls:=.type "dict",dict:=none,data:=.dict #[] }).objs.size) { s2 with heap:=h₁,toks:=s2.toks + ([]:List (Str×Value)).length }:=by
  refine CN (X:=X.blk (NT++NF) scope cl (s2.heap.push { cls:=.type "dict",dict:=none,data:=.dict #[] }).objs.size { s2 with heap:=s2.heap.push { cls:=.type "dict",dict:=none,data:=.dict #[] } } (upd H2 s2.heap.objs.size (.dK [])) fp)
   (T:=T) (fs:=frees js σ) (done:=Q) rfl (Gi kx vx tg iter ifs scope pos _ _ _) rfl rfl rfl tk rfl B.nd hc (fun x hx=>lookup_relabel_local (B.tg x hx)) i1 (VD hu i2 i3) TT (fun b hb=>?_) I4 XR (q _) fun H' s' σ' J' qd=>?_
  ·exact ⟨(f3 b hb).1,Nat.ne_of_lt (XQ b hb),fun hb2=>by
    rcases List.mem_cons.mp (I3.vO b hb2) with z | z
    ·exact (f3 b hb).2.1 z
    ·exact (f3 b hb).2.2.1 z,.inl hb,fun x c e=>(f3 b hb).2.2.2.2.1 x c (q2 x c e),fun p hp=>(nomatch (show p∈([]:List (Addr×Obj)) from hp))⟩
  ·obtain ⟨m,hn,_⟩:=J'.loc
   exact hR _ H' s' m (I3.TQ f3 J') (I3.Fj (Nat.le_refl _) J'.free) hn qd
 exact codeAny_compStart_dict loop (TT.self _ 0 _ _ _ XR loop)
theorem M3 {i:Nat} {y:Str} {pos' spos:Pos} (B:qu X NT NF js scope) (tk:vZ tg NT T) (hc:X.calm=true) (hu:X.A.units + 1 < cLine) (hi:PI X tg iter wi)
  (hin:∀b,Kg (X.bk (NT++NF) scope b) ifs (ts b)∧PE (X.bk (NT++NF) scope b) kx (tk' b)∧PE (X.bk (NT++NF) scope b) vx (tv b))
  (hsw:swapsWith (.DictComp kx vx [⟨tg,iter,ifs,0⟩] scope pos) (some (.Name y pos')) spos.line X.env=pure true)
  (hN:X.N.Nodup) (hI:X.N[i]?=some y) (hy:X.env.scope.names.lookup y=some .local)
  (hs:∀x,foldedSetIterable iter X.env x=pure x:=by intro _; rfl):PS X (.Assign [.Name y pos'] (.DictComp kx vx [⟨tg,iter,ifs,0⟩] scope pos) spos) (JV (tDC X.K wi T ts tk' tv js) (uG i)):=by
 intro pins s σ H D I h
 obtain ⟨cl,hclos,q2,q3⟩:=qD (env:=X.env) (scope:=scope) fun y hy e=>I.ok.has y.1 (B.free y hy e)
 rw [exec_Assign_Name_used _ _ _ _ hsw]
 refine wpAny_bind (wpAny_standAt (wpAny_bind ?_))
 show wpAny _ X.A (do let _ ←comprehension (.DictComp kx vx [⟨tg,iter,ifs,0⟩] scope pos) scope X.env _ (newDict) false (eval iter X.env) (some (assign (.Name y pos') X.env))) _ _ s
 refine wpAny_bind (wpAny_mono (wpAny_comprehension_free (use:=some (assign (.Name y pos') X.env)) (Q:=fun _ s'=>SP X pins D .next s') rfl hs hclos B.kind B.names
  (eZ (hi pins s σ H _ I h) fun v s1 h1=>eZ h1 fun itv s2 ⟨it,fp,tn,J,H2,e,I2,TT,st2,f2,q⟩=>?_)) (fun _ s' hq=>wpAny_pure (wpAny_pure hq)) fun _ _ e=>e)
 subst e
 refine VF (hu:=hu) (Q:=fun H'=>D.nx (σ.set i (some (.ref s2.heap.objs.size))) H') (RR:=fun acc C=>compPost (model X.prog X.w) X.A X.xe (some (assign (.Name y pos') X.env)) (fun _ s'=>SP X pins D .next s') acc C) B tk hc (hin:=hin) q2 q3 I2 TT st2 f2 (q _ (I2.hok.fresh (Nat.le_refl _))) fun C H' s' m I' fC hn qd=>?_
 show wpAny _ X.A (assign (.Name y pos') X.env (.ref s2.heap.objs.size)) _ _ _
 refine wpAny_assign_Name (tO I' hN hI (.inl hy) (v:=.ref s2.heap.objs.size) rfl (fun s3 I3 ⟨a,sb,ha⟩=>?_) (.inr hy))
 have Z8:C≠a:=by
  rcases ha with z | z
  ·rw [z]; exact fC.2.1
  ·exact fun w=>fC.2.2.2.2.1 y a z w.symm
 refine ⟨m,hn.sameBut sb Z8,fun h' sb'=>⟨_,H',?_,qd⟩⟩
 exact I3.turned (t':=s3.toks) (fun b o hb e=>(sb'.2 b hb).trans e) fC.1 fC.2.1 fC.2.2.2.1 fC.2.2.2.2.1 fC.2.2.2.2.2
end
end L2
namespace L2
open PySem PySem.Spec PyProof.Rows
section
variable {X:Cx}
theorem Q7 {K:PySem.W.Frag} {t:Value} {c d:Value} {p q:Bool} (e1:PySem.W.kitOne K t c=some p) (e2:PySem.W.kitOne K t d=some q):PySem.W.kitAny K t [c,d]=some (p || q):=by
 unfold PySem.W.kitAny
 rw [e1]
 cases p with
 | true=>rfl
 | false=>
  unfold PySem.W.kitAny
  rw [e2]
  cases q with
  | true=>rfl
  | false=>rfl
end
structure Fy (K:PySem.W.Frag) (T:rA) (J:It) (n:Nat) (vs:Nat→List V) (G:Hp→Prop):Prop where
 go:∀i H,i < n→G H→J.go i H
 Qm:∀i H x H',i < n→G H→J.Qm i H x H'→bz H H'∧TV K T x H' (vs i)
 stop:∀H,G H→J.stop n H
theorem Fx.y {K:PySem.W.Frag} {T:rA} {J:It} {n:Nat} {vs:Nat→List V} {G:Hp→Prop} (F:Fx K T J n vs G):Fy K T J n vs G where
 go:=F.go
 Qm:=fun i H x H' hi g y=>by
  obtain ⟨e,t⟩:=F.Qm i H x H' hi g y
  subst e
  exact ⟨bz.refl _,t⟩
 stop:=F.stop
section
variable {K:PySem.W.Frag} {T:rA} {J:It} {n:Nat} {vs:Nat→List V} {G:Hp→Prop} {ts:TT} {te:TE} {fs:St} {H1:Hp} {D:Addr} {done:Hp→Prop}
end
theorem Inv.Ig {X:Cx} {pins:List (Addr×Obj)} {σ:St} {H H':Hp} {s:Shared} {h':Heap} {t':Nat} {ch:List Addr} (I:Inv X pins σ H s) (k:∀b o,b∉ch→s.heap.get? b=some o→h'.get? b=some o) (hf:∀b∈ch,nD X pins H b)
  (hs:bz H H') (hfr:∀b o,s.heap.get? b=some o→H b=none→H' b=none) (hn:∀b u,H' b=some u→H b=some u∨cF X.prog X.w H' h' b u):Inv X pins σ H' { s with heap:=h',toks:=t' }:=by
 have W6:∀b u,H b=some u→b∉ch:=fun b u e z=>by rw [(hf b z).1] at e; cases e
 refine I.step (g':=s.gens) (d':=s.drawn) (ch:=ch) (fun b hb=>⟨(hf b hb).2.2.2.1,(hf b hb).2.1,(hf b hb).2.2.2.2.1,(hf b hb).2.2.2.2.2⟩) (fun b o _ _ hc e _=>k b o hc e) (fun b o _ _ hc e _=>⟨o.slots,k b o hc e⟩) (fun b o _ e n=>hfr b o e n)
  (fun b o hc e=>⟨o,k b o hc e⟩) (fun _ _ e=>hs _ _ e) (fun _ _ _ e=>hs _ _ e) (fun b ps e=>⟨#[],by rw [hs _ _ e]; simp⟩) (fun m hm=>?_) (fun b u e=>?_) I.bare
 ·obtain ⟨o,es,ep,ho,r⟩:=hm
  exact ⟨o,es,ep,k _ o (fun z=>(hf _ z).2.1 rfl) ho,r⟩
 ·rcases hn b u e with z | z
  ·refine (I.hok b u z).stay (fun c v hc q=>k c v ?_ q) (fun _ q=>hs _ _ q) fun _ _ q=>hs _ _ q
   rcases hc with y | y
   ·rw [y]; exact W6 b u z
   ·exact W6 c _ y
  ·exact z
def Itz (K:PySem.W.Frag) (a b:Addr):It:=⟨fun i H=>∃xs ys,dW K H a xs∧dW K H b ys∧i < min xs.length ys.length,
 fun i H v H'=>∃p x y,H p=none∧v=.ref p∧H'=upd H p (.tup [x,y])∧∀xs ys,dW K H a xs→dW K H b ys→xs[i]?=some x∧ys[i]?=some y,
 fun i H=>∃xs ys,dW K H a xs∧dW K H b ys∧i=min xs.length ys.length⟩
theorem M4 {P:Program} {w:World} {K:PySem.W.Frag} {es:List Expr} {k:Nat} {ps:Pos} {a b z TI TO i1 i2:Addr} (D:ZipApart z TI TO i1 i2 a b):
  Turn P w K (.Tuple es k ps) (Itz K a b) [z,TI,TO,i1,i2] z (fun i h=>IsZip h z TI TO .none∧IsPair h TI (.ref i1) (.ref i2)∧(∃c d,IsPair h TO c d)∧h.IsListIter i1 a i∧h.IsListIter i2 b i) where
 mem:=by simp
 obj:=fun i h st c hc=>by
  obtain ⟨h1,h2,⟨_,_,h3⟩,⟨o4,e4,_,d4⟩,⟨o5,e5,_,d5⟩⟩:=st
  simp only [List.mem_cons,List.not_mem_nil,or_false] at hc
  rcases hc with rfl | rfl | rfl | rfl | rfl
  ·exact ⟨_,h1,fun v q=>by cases q⟩
  ·exact ⟨_,h2,fun v q=>by cases q⟩
  ·exact ⟨_,h3,fun v q=>by cases q⟩
  ·exact ⟨_,e4,fun v q=>by rw [d4] at q; cases q⟩
  ·exact ⟨_,e5,fun v q=>by rw [d5] at q; cases q⟩
 keep:=fun i h h' st kk=>by
  obtain ⟨h1,h2,⟨c,d,h3⟩,h4,h5⟩:=st
  exact ⟨kk z (by simp) _ h1,kk TI (by simp) _ h2,⟨c,d,kk TO (by simp) _ h3⟩,h4.at fun o e=>kk i1 (by simp) o e,h5.at fun o e=>kk i2 (by simp) o e⟩
 item:=by
  intro X hP hw hK hc i pins s σ H E I hf st hg
  subst hP hw hK
  obtain ⟨xs,ys,ha,hb,hi⟩:=hg
  obtain ⟨its,r1,p1,_⟩:=I.list ha
  obtain ⟨its2,r2,p2,_⟩:=I.list hb
  have l1:=r1.length
  have l2:=r2.length
  have W:=WalksT.zip2 (prog:=X.prog) (w:=X.w) (A:=X.A) (I.ok.hd hc) z TI TO i1 i2 a b D its.toArray its2.toArray
  obtain ⟨s1,s2,s3,s4,s5⟩:=st
  refine W.item i s _ E (by simp; omega) ⟨s1,s2,s3,s4,s5,p1.isList,p2.isList⟩ fun T vals h' tk hv hT ht hm kk=>?_
  obtain ⟨x,y,hx,hy,rfl⟩:=hv
  refine ⟨_,rfl,W.go es k ps i T _ _ E hm fun h2 st2 TX=>?_⟩
  have gx:xs[i]?=some (xs.getD i .non):=by
   have:i < xs.length:=by omega
   simp [List.getD,this]
  have gy:ys[i]?=some (ys.getD i .non):=by
   have:i < ys.length:=by omega
   simp [List.getD,this]
  obtain ⟨u1,hu1,q1⟩:=r1.get gx
  obtain ⟨u2,hu2,q2⟩:=r2.get gy
  have ex:u1=x:=by
   have:its[i]?=some x:=by simpa using hx
   rw [hu1] at this
   exact Option.some.inj this
  have ey:u2=y:=by
   have:its2[i]?=some y:=by simpa using hy
   rw [hu2] at this
   exact Option.some.inj this
  subst ex ey
  have wf:∀c,c∈[z,TO,i1,i2]→nD X pins H c:=fun c hc=>hf c (by simp at hc ⊢; rcases hc with rfl | rfl | rfl | rfl <;> simp)
  have hTn:H T=none:=I.hok.fresh hT
  have nT:T∉[z,TO,i1,i2]:=W.apart i T _ hm
  have kT:h2.get? T=h'.get? T:=by
   obtain ⟨o,e,_⟩:=id ht
   rw [TX T o nT e]
   exact e.symm
  obtain ⟨oT,eT,cT,nT',dT⟩:=id ht
  refine ⟨.ref T,upd H T (.tup [xs.getD i .non,ys.getD i .non]),I.Ig (fun c o hc e=>TX c o hc (kk c o hc e)) wf (bz.upd hTn) (fun c o e n=>?_) (fun c u e=>?_),rfl,⟨T,_,_,hTn,rfl,rfl,fun xs' ys' h1 h2=>?_⟩,?_,fun c hc=>?_⟩
  ·rw [aY]
   ·exact n
   ·intro z
    subst z
    exact absurd (Heap.lt_size e) (Nat.not_lt.mpr hT)
  ·by_cases hcT:c=T
   ·subst hcT
    rw [aX] at e
    cases e
    refine .inr ⟨by show 2≤sizeLine; decide,[u1,u2],.cons q1 (.cons q2 .nil),oT,kT.trans eT,cT,nT',by simpa using dT⟩
   ·rw [aY hcT] at e
    exact .inl e
  ·rw [I.vP h1 ha,I.vP h2 hb]
   exact ⟨gx,gy⟩
  ·exact ⟨st2.1,st2.2.1,st2.2.2.1,st2.2.2.2.1,st2.2.2.2.2.1⟩
  ·rw [aY]
   ·exact (hf c hc).1
   ·intro z
    subst z
    obtain ⟨o,e,_⟩:∃o,s.heap.get? c=some o∧True:=by
     simp only [List.mem_cons,List.not_mem_nil,or_false] at hc
     obtain ⟨c1,d1,s3⟩:=s3
     obtain ⟨o4,e4,_⟩:=s4
     obtain ⟨o5,e5,_⟩:=s5
     rcases hc with rfl | rfl | rfl | rfl | rfl
     ·exact ⟨_,s1,trivial⟩
     ·exact ⟨_,s2,trivial⟩
     ·exact ⟨_,s3,trivial⟩
     ·exact ⟨_,e4,trivial⟩
     ·exact ⟨_,e5,trivial⟩
    exact absurd (Heap.lt_size e) (Nat.not_lt.mpr hT)
 done:=by
  intro X hP hw hK hc i pins s σ H E I hf st hg
  subst hP hw hK
  obtain ⟨xs,ys,ha,hb,hi⟩:=hg
  obtain ⟨its,r1,p1,_⟩:=I.list ha
  obtain ⟨its2,r2,p2,_⟩:=I.list hb
  have l1:=r1.length
  have l2:=r2.length
  have W:=WalksT.zip2 (prog:=X.prog) (w:=X.w) (A:=X.A) (I.ok.hd hc) z TI TO i1 i2 a b D its.toArray its2.toArray
  obtain ⟨s1,s2,s3,s4,s5⟩:=st
  have e:i=min its.toArray.size its2.toArray.size:=by simp; omega
  subst e
  refine W.done s _ E ⟨s1,s2,s3,s4,s5,p1.isList,p2.isList⟩ fun h' tk kk=>⟨rfl,?_⟩
  have wf:∀c,c∈[z,TO,i1,i2]→nD X pins H c:=fun c hc=>hf c (by simp at hc ⊢; rcases hc with rfl | rfl | rfl | rfl <;> simp)
  exact I.Ig kk wf (bz.refl H) (fun _ _ _ n=>n) fun _ _ e=>.inl e
 self:=fun _ _ _ _ _ st h=>wpAny_pyIter_zip st.1 h
def aac (K:PySem.W.Frag) (t:TA):TI:=fun σ H R=>t σ H fun vs H1=>∃a b xs ys,vs=[.ref a,.ref b]∧dW K H1 a xs∧dW K H1 b ys∧R (Itz K a b) H1
theorem VG {X:Cx} {es:List Expr} {k:Nat} {ps:Pos} {x y:Expr} {t:TA} {p pos:Pos} (hg:Gl X "zip") (hm:X.mg "zip"=none) (ha:PA X [x,y] t) (hs:starEach [x,y] X.env=[(false,eval x X.env),(false,eval y X.env)]:=by rfl) (hs2:starEach [y] X.env=[(false,eval y X.env)]:=by rfl):
  PI X (.Tuple es k ps) (.Call (.Name "zip" p) [x,y] [] pos) (aac X.K t):=by
 intro pins s σ H R I h
 refine Call_ (nC I hg hm PyProof.Rows.boot_zip (PyProof.Rows.callWith_type1 (eZ (ha pos pins s σ H _ I h) fun us s1 ⟨vs,H1,I1,r1,q1⟩=>?_) (by rw [hs,hs2]) (by rw [hs2]; rfl)))
 obtain ⟨a,b,xs,ys,e,h1,h2,q⟩:=q1
 subst e
 cases r1 with
 | cons r rr=>
  cases rr with
  | cons r' rr=>
   cases rr
   cases r
   cases r'
   obtain ⟨its,v1,p1,_⟩:=I1.list h1
   obtain ⟨its2,v2,p2,_⟩:=I1.list h2
   have lt1:a < s1.heap.objs.size:=by obtain ⟨_,e,_⟩:=p1.isList; exact Heap.lt_size e
   have Vy:b < s1.heap.objs.size:=by obtain ⟨_,e,_⟩:=p2.isList; exact Heap.lt_size e
   refine call_zip_2 p1.isList p2.isList fun h' g1 g2 g3 g4 g5 hsz kk=>?_
   refine wpAny_pyIter_zip g1 ?_
   have I2:Inv X pins σ H1 { s1 with heap:=h' }:=I1.kept (t':=s1.toks) kk
   refine ⟨s1.heap.objs.size + 4,[s1.heap.objs.size + 4,s1.heap.objs.size + 2,s1.heap.objs.size + 3,s1.heap.objs.size,s1.heap.objs.size + 1],_,_,H1,rfl,I2,M4 (zipApart_new lt1 Vy),⟨g1,g2,⟨_,_,g3⟩,g4,g5⟩,fun c hc=>?_,q⟩
   refine I1.Fj ?_ (I1.hok.fresh ?_)
   all_goals
    simp only [List.mem_cons,List.not_mem_nil,or_false] at hc
    rcases hc with rfl | rfl | rfl | rfl | rfl <;> omega
theorem Gj {X:Cx} {pins:List (Addr×Obj)} {σ:St} {H:Hp} {s:Shared} {A:Around} {E:Value→Shared→Prop} {Q:Value→Shared→Prop} {b:Bool} {c:Addr} {its:List Value} {x:V} {u t:Value} (I:Inv X pins σ H s) (rx:RelV x u) (ty:oY X.K H x t) (e:PySem.W.kitAny X.K t its=some b)
  (hc:s.heap.IsTuple c its.toArray) (h:∀tk,Q (.bool b) { s with toks:=tk }):wpAny (model X.prog X.w) A (call (.builtin "isinstance") [u,.ref c]) Q E s:=by
 obtain ⟨⟨oc,od,oda,osl⟩,g1,g2,g3,g4⟩:=hc
 simp only at g2 g4
 subst g2 g4
 cases ty with
 | non=>cases (show u=Value.none from rx); exact PySem.W.kia_tup PySem.W.kitx_none I.tK True.intro g1 e (fun z=>nomatch z) h
 | bl y=>cases (show u=Value.bool y from rx); exact PySem.W.kia_tup PySem.W.kitx_bool I.tK True.intro g1 e (fun z=>nomatch z) h
 | int i=>obtain ⟨t,q⟩:=(show ∃t,u=Value.int i t from rx); cases q; exact PySem.W.kia_tup PySem.W.kitx_int I.tK True.intro g1 e (fun z=>nomatch z) h
 | str y=>obtain ⟨t,q⟩:=(show ∃t,u=Value.str y t from rx); cases q; exact PySem.W.kia_tup PySem.W.kitx_str I.tK True.intro g1 e (fun z=>nomatch z) h
 | flt y=>obtain ⟨t,q⟩:=(show ∃t,u=Value.float y t from rx); cases q; exact PySem.W.kia_tup PySem.W.kitx_float I.tK True.intro g1 e (fun z=>nomatch z) h
 | @lst a xs ea=>
  cases (show u=Value.ref a from rx)
  obtain ⟨_,_,n,_,h1⟩:=(show cF X.prog X.w H s.heap a (.lst xs) from I.hok a _ ea)
  exact PySem.W.kia_tup PySem.W.kitx_list I.tK ⟨_,h1,rfl⟩ g1 e (fun z=>nomatch z) h
 | @Cj a ob xs ea=>
  cases (show u=Value.ref a from rx)
  obtain ⟨_,_,_,n,_,h1⟩:=(show cF X.prog X.w H s.heap a (.Cj ob (.lst xs)) from I.hok a _ ea)
  exact PySem.W.kia_tup PySem.W.kitx_list I.tK ⟨_,h1,rfl⟩ g1 e (fun z=>nomatch z) h
 | @tup a xs ea=>
  cases (show u=Value.ref a from rx)
  obtain ⟨_,_,_,p⟩:=(show cF X.prog X.w H s.heap a (.tup xs) from I.hok a _ ea)
  obtain ⟨o,h1,h2,_⟩:=p
  exact PySem.W.kia_tup PySem.W.kitx_tuple I.tK ⟨o,h1,h2⟩ g1 e (fun z=>nomatch z) h
 | @dK a kvs ea=>
  cases (show u=Value.ref a from rx)
  obtain ⟨_,_,vs,_,p⟩:=(show cF X.prog X.w H s.heap a (.dK kvs) from I.hok a _ ea)
  obtain ⟨o,es,ep,h1,h2,_⟩:=p
  exact PySem.W.kia_tup PySem.W.kitx_dict I.tK ⟨o,h1,h2.1⟩ g1 e (fun z=>nomatch z) h
 | @dT a kvs ea=>
  cases (show u=Value.ref a from rx)
  obtain ⟨_,_,xs,_,o,es,ep,h1,h2,_⟩:=(show cF X.prog X.w H s.heap a (.dT kvs) from I.hok a _ ea)
  exact PySem.W.kia_tup PySem.W.kitx_dict I.tK ⟨o,h1,h2.1⟩ g1 e (fun z=>nomatch z) h
 | @ins a C dx fs ea cl ha hn htk hm=>
  cases (show u=Value.ref a from rx)
  obtain ⟨mA,O,_⟩:=HX I.hok ea
  obtain ⟨od,J,_⟩:=O.look
  exact PySem.W.kia_tup (PySem.W.kitx_own (cl.get _) cl.hd ha hn htk hm) I.tK J g1 e (fun z=>nomatch z) h
theorem An {X:Cx}:dF X (.builtin "isinstance") (fun xs H Q=>∃x c m n t p q,xs=[x,.ref c]∧H c=some (.tup [.ty m,.ty n])∧oY X.K H x t∧PySem.W.kitOne X.K t (.type m)=some p∧PySem.W.kitOne X.K t (.type n)=some q∧Q (.bl (p || q)) H):=by
 intro pins s σ H xs us Q I r h
 obtain ⟨x,c,m,n,t,p,q,rfl,hc,ty,e1,e2,k⟩:=h
 obtain ⟨u,u2,rfl,r1,r2⟩:=vals2 r
 cases r2
 obtain ⟨_,its,rv,ob,g1,g2,g3⟩:=(show cF X.prog X.w H s.heap c (.tup [.ty m,.ty n]) from I.hok c _ hc)
 cases rv with
 | cons a1 rv=>
  cases rv with
  | cons a2 rv=>
   cases rv
   cases a1
   cases a2
   exact Gj I r1 ty (Q7 e1 e2) ⟨ob,g1,g2,g3⟩ fun tk=>⟨.bl (p || q),H,I.tok tk,rfl,k⟩
end L2
set_option maxHeartbeats 4000000
namespace L2
open PySem PySem.Spec PyProof.Rows PySem.W
section
variable {N:Nat} {lt:Nat→Nat→Bool} {α β:Type}
def dR (N:Nat) (lt:Nat→Nat→Bool):KasT α→(α→Prop)→Prop
 | .ret a,R=>R a
 | .ask i j k,R=>i < N∧j < N∧dR N lt (k (lt i j)) R
theorem dR.mono {R S:α→Prop}:∀{t:KasT α},dR N lt t R→(∀a,R a→S a)→dR N lt t S
 | .ret a,h,f=>f a h
 | .ask i j k,h,f=>⟨h.1,h.2.1,dR.mono h.2.2 f⟩
theorem dR.bind {f:α→KasT β} {R:β→Prop}:∀{t:KasT α},dR N lt t (fun a=>dR N lt (f a) R)→dR N lt (t.bind f) R
 | .ret a,h=>h
 | .ask i j k,h=>⟨h.1,h.2.1,dR.bind h.2.2⟩
theorem dR.wp {cmp:Nat→Nat→(Bool→Shared→Prop)→Shared→Prop} {R:α→Prop} {Q:α→Shared→Prop} {s:Shared} (ask:∀i j,i < N→j < N→∀C:Bool→Shared→Prop,C (lt i j) s→cmp i j C s) (q:∀a,R a→Q a s):∀{t:KasT α},dR N lt t R→t.kasWp cmp Q s
 | .ret a,h=>q a h
 | .ask i j k,h=>ask i j h.1 h.2.1 _ (dR.wp ask q h.2.2)
def KP (N:Nat) (p:Array Nat):Prop:=p.toList.Perm (List.range N)
theorem KP.ix {p:Array Nat} (h:KP N p) (h0:0 < N) (i:Nat):p.getD i 0 < N:=by
 by_cases hi:i < p.size
 ·have:p.getD i 0∈p.toList:=by simp [Array.getD,hi]
  exact List.mem_range.mp (h.mem_iff.mp this)
 ·simpa [Array.getD,hi] using h0
theorem KP.rev {p:Array Nat} (h:KP N p) (i j:Nat):KP N (kas_rev p i j):=((mirror_perm p i j _).toList).trans h
theorem KP.bub {p:Array Nat} (h:KP N p) (i j:Nat):KP N (bubble p i j):=((bubble_perm p i j).toList).trans h
end
def kLt:Key→Key→Bool
 | .inl i,.inl j=>decide (i < j)
 | .inr x,.inr y=>decide (x.cps.toList < y.cps.toList)
 | _,_=>false
def cL:List Key→List Key→Bool
 | a::r,b::t=>if a=b then cL r t else kLt a b
 | _,_=>false
def gA:Key→Bool
 | .inl _=>true
 | .inr _=>false
section
variable {prog:Program} {w:World} {A:Around} {E:Value→Shared→Prop} {s:Shared} {Q:Bool→Shared→Prop}
theorem M5 {a b:Key} {u v:Value} {f:Bool} (ra:RelV (kV a) u) (rb:RelV (kV b) v) (ht:gA a=gA b) (h:Q (kLt a b) s):wpAny (model prog w) A (oneLt' f u v) Q E s:=by
 cases a with
 | inl i=>
  cases b with
  | inr y=>cases ht
  | inl j=>
   obtain ⟨t,rfl⟩:=ra
   obtain ⟨t',rfl⟩:=rb
   cases f with
   | true=>exact oneLt_int h
   | false=>exact kat_one _ _ (lt_int h)
 | inr x=>
  cases b with
  | inl y=>cases ht
  | inr y=>
   obtain ⟨t,rfl⟩:=ra
   obtain ⟨t',rfl⟩:=rb
   cases f with
   | true=>exact oneLt_str h
   | false=>exact kat_one _ _ (lt_str h)
theorem Ih {a b:Key} (ht:gA a=gA b):Ms (kV a) (kV b)=decide (a=b):=by
 cases a with
 | inl i=>
  cases b with
  | inr y=>cases ht
  | inl j=>show (i==j)=_; rw [Bool.eq_iff_iff]; simp
 | inr x=>
  cases b with
  | inl y=>cases ht
  | inr y=>show (x==y)=_; rw [Bool.eq_iff_iff]; simp
theorem rP (a:Key):mL (kV a)=true:=by cases a <;> rfl
theorem CT:∀{ks js:List Key} {us vs:List Value} {i:Nat},Vals (ks.map kV) us→Vals (js.map kV) vs→ks.map gA=js.map gA→Q (cL ks js) s→KatLex prog w A true false Q (us.zip vs) i s
 | [],[],_,_,_,ra,rb,_,h=>by
  cases ra
  cases rb
  exact kat_nil h
 | [],_::_,_,_,_,_,_,e,_=>by cases e
 | _::_,[],_,_,_,_,_,e,_=>by cases e
 | a::ks,b::js,us,vs,i,ra,rb,e,h=>by
  cases ra with
  | cons r1 ra=>
   cases rb with
   | cons r2 rb=>
    have e1:gA a=gA b:=(List.cons.inj e).1
    have e2:=(List.cons.inj e).2
    refine kat_cons (Ge r1 r2 (rP a) (rP b) prog w _ _ ?_)
    rw [Ih e1]
    unfold cL at h
    by_cases hab:a=b
    ·rw [if_pos hab] at h
     rw [decide_eq_true hab]
     exact kat_yes (CT ra rb e2 h)
    ·rw [if_neg hab] at h
     rw [decide_eq_false hab]
     exact kat_no (M5 r1 r2 e1 h)
end
section
variable {prog:Program} {w:World} {A:Around} {E:Value→Shared→Prop} {s:Shared} {vs:List Value} {κ:SortKind} {lt:Nat→Nat→Bool} {Rl:List Nat→Prop}
def Kp (a:Addr) (h h':Heap):Prop:=∀b o,b≠a→h.get? b=some o→h'.get? b=some o
theorem Gk {a:Addr} {n:Nat} {P:PySem.Fin→Shared→Prop} (ho:s.heap.get? a=some (seqObj "list" vs.toArray n)) (h64:vs.length < 64) (hg:2≤vs.length→dR vs.length lt (kas_sort vs.length) fun p=>KP vs.length p∧Rl p.toList) (hsm:vs.length < 2→Rl (List.range vs.length))
  (hk:2≤vs.length→∀s':Shared,Kp a s.heap s'.heap→∀Q:SortKind→Shared→Prop,Q κ s'→wpAny (model prog w) A (keyKind' vs.toArray) Q (fun _ _=>False) s')
  (hl:2≤vs.length→∀s':Shared,Kp a s.heap s'.heap→∀i j,i < vs.length→j < vs.length→∀C:Bool→Shared→Prop,C (lt i j) s'→kas_ask prog w A κ vs i j C s')
  (h:∀(p:List Nat) (h':Heap) (c:Nat),p.Perm (List.range vs.length)→Rl p→Kp a s.heap h'→h'.get? a=some (seqObj "list" (p.map fun i=>vs.getD i Value.none).toArray c)→P (.done (.ret .none)) { s with heap:=h' }):
  wpAny (model prog w) A (Builtin.«list.sort» ⟨[.ref a],[]⟩) P E s:=by
 have lta:a < s.heap.objs.size:=Heap.lt_size ho
 obtain ⟨e1,ho1⟩:∃e1,(s.heap.update a (Obj.mapSeq fun _=>(#[]:Array Value))).get? a=some (seqObj "list" #[] e1):=⟨_,get?_update_seq ho fun _=>#[]⟩
 have sz:vs.length≤sizeLine:=by rw [sizeLine_eq]; omega
 have kp:Kp a s.heap (((s.heap.update a (Obj.mapSeq fun _=>(#[]:Array Value))).push (seqObj "tuple" vs.toArray 0)).push (seqObj "list" #[] 0)):=fun b o hb e=>
  Heap.get?_push_of_some _ (Heap.get?_push_of_some _ (((Heap.SameBut.update s.heap a _).2 b hb).trans e))
 have X3:(((s.heap.update a (Obj.mapSeq fun _=>(#[]:Array Value))).push (seqObj "tuple" vs.toArray 0)).push (seqObj "list" #[] 0)).get? a=some (seqObj "list" #[] e1):=Heap.get?_push_of_some _ (Heap.get?_push_of_some _ ho1)
 rw [list_sort_plain]
 refine wpAny_bind (listItems_at ho rfl (wpAny_bind (listUpdate_at ho rfl (wpAny_bind (seqEpoch_at ho1 rfl (wpAny_bind (wpAny_newTuple (wpAny_bind (wpAny_newList (wpAny_holding ?_) (Nat.zero_le _))) (by show vs.length≤_; exact sz))))) (by rw [List.size_toArray]; exact sz) (Nat.zero_le _))))
 show wpAny (model prog w) A _ P E { s with heap:=((s.heap.update a (Obj.mapSeq fun _=>(#[]:Array Value))).push (seqObj "tuple" vs.toArray 0)).push (seqObj "list" #[] 0) }
 dsimp only
 have fin:∀(p:List Nat),p.Perm (List.range vs.length)→Rl p→∀out:Array Value,out=(p.map fun i=>vs.getD i Value.none).toArray→
   P (.done (.ret .none)) { s with heap:=(((s.heap.update a (Obj.mapSeq fun _=>(#[]:Array Value))).push (seqObj "tuple" vs.toArray 0)).push (seqObj "list" #[] 0)).update a (Obj.mapSeq fun _=>out) }:=fun p hp hrl out eo=>by
  subst eo
  refine h p _ _ hp hrl (fun b o hb e=>((Heap.SameBut.update _ a _).2 b hb).trans (kp b o hb e)) (get?_update_seq X3 _)
 by_cases h2:vs.toArray.size < 2
 ·rw [if_pos h2,if_pos h2]
  refine wpAny_bind (wpAny_pure ?_)
  rw [StateT.run_pure]
  refine wpAny_bind (wpAny_pure ?_)
  dsimp only
  have hz:(pairsOf vs).size≤sizeLine:=by rw [pairsOf_size]; exact sz
  refine wpAny_bind (seqEpoch_at X3 rfl (wpAny_bind (listUpdate_at X3 rfl ?_ (hsz2:=by rw [Array.size_map]; show (pairsOf vs).size≤_; omega))))
  simp only [bne_self_eq_false,Bool.false_eq_true,if_false]
  refine wpAny_pure (fin (List.range vs.length) (List.Perm.refl _) (hsm (by simpa using h2)) _ ?_)
  apply Array.toList_inj.mp
  show ((vs.toArray.zip vs.toArray).map (·.2)).toList=_
  rw [Array.toList_map,Array.toList_zip,List.map_snd_zip (Nat.le_refl _)]
  show vs=_
  refine List.ext_getElem (by simp) fun i h1 h3=>?_
  simp [List.getD,h1]
 ·have h2':2≤vs.length:=by simpa using h2
  rw [if_neg h2,if_neg h2]
  refine wpAny_bind (wpAny_mono (hk h2' _ kp (fun k s'=>k=κ∧s'={ s with heap:=((s.heap.update a (Obj.mapSeq fun _=>(#[]:Array Value))).push (seqObj "tuple" vs.toArray 0)).push (seqObj "list" #[] 0) }) ⟨rfl,rfl⟩) (fun k s0 hk0=>?_) fun _ _ x=>x.elim)
  obtain ⟨rfl,rfl⟩:=hk0
  refine wpAny_bind (wpAny_mono (kat_run (ks:=vs) (vs:=vs) (Q:=fun st' s'=>∃p:Array Nat,(KP vs.length p∧Rl p.toList)∧arrOf st'=p.map (kas_item (vs.toArray.zip vs.toArray))∧failedOf st'=none∧s'={ s with heap:=((s.heap.update a (Obj.mapSeq fun _=>(#[]:Array Value))).push (seqObj "tuple" vs.toArray 0)).push (seqObj "list" #[] 0) })
   rfl h2' h64 (G:=fun p s'=>(KP vs.length p∧Rl p.toList)∧s'={ s with heap:=((s.heap.update a (Obj.mapSeq fun _=>(#[]:Array Value))).push (seqObj "tuple" vs.toArray 0)).push (seqObj "list" #[] 0) }) (fun p st' s' a1 a2 a3 a4=>⟨p,a4.1,a2,a3,a4.2⟩) (dR.wp (lt:=lt) (hl h2' _ kp) (fun p hp=>⟨hp,rfl⟩) (hg h2'))) ?_ fun _ _ e=>e)
  rintro ⟨⟨⟩,st'⟩ s' ⟨p,⟨hp,hrl⟩,har,hf,rfl⟩
  dsimp only
  have hout:=kat_snds (ks:=vs) (vs:=vs) rfl har
  have hps:p.toList.length=vs.length:=by rw [hp.length_eq,List.length_range]
  rw [hout]
  refine wpAny_bind (seqEpoch_at X3 rfl (wpAny_bind (listUpdate_at X3 rfl ?_ (Nat.zero_le _) (by rw [List.size_toArray,List.length_map,hps]; omega))))
  rw [hf]
  simp only [bne_self_eq_false,Bool.false_eq_true,if_false]
  exact wpAny_pure (fin p.toList hp hrl _ rfl)
theorem uJ {r:Addr} {Q:Value→Shared→Prop} (h64:vs.length < 64) (hg:2≤vs.length→dR vs.length lt (kas_sort vs.length) fun p=>KP vs.length p∧Rl p.toList) (hsm:vs.length < 2→Rl (List.range vs.length))
  (hc:∀R:List Value→Shared→Prop,(∀us h1 tk,s.heap.objs.size≤h1.objs.size→(∀b o,s.heap.get? b=some o→h1.get? b=some o)→us=vs→R us { s with heap:=h1,toks:=tk })→wpAny (model prog w) A.in1 (collect (.ref r)) R E s)
  (hk:2≤vs.length→∀s':Shared,(∀b o,s.heap.get? b=some o→s'.heap.get? b=some o)→∀Q:SortKind→Shared→Prop,Q κ s'→wpAny (model prog w) A.in1.in1 (keyKind' vs.toArray) Q (fun _ _=>False) s')
  (hl:2≤vs.length→∀s':Shared,(∀b o,s.heap.get? b=some o→s'.heap.get? b=some o)→∀i j,i < vs.length→j < vs.length→∀C:Bool→Shared→Prop,C (lt i j) s'→kas_ask prog w A.in1.in1 κ vs i j C s')
  (h:∀(p:List Nat) (D:Addr) (h':Heap) (c tk:Nat),p.Perm (List.range vs.length)→Rl p→s.heap.objs.size≤D→(∀b o,s.heap.get? b=some o→h'.get? b=some o)→h'.get? D=some (seqObj "list" (p.map fun i=>vs.getD i Value.none).toArray c)→Q (.ref D) { s with heap:=h',toks:=tk }):
  wpAny (model prog w) A (call (.builtin "sorted") [.ref r]) Q E s:=by
 refine Calls.call_function_entry kind_sorted plain_sorted entry_sorted (args_sorted1 _) ?_
 unfold Builtin.«sorted»
 refine wpAny_bind (m:=checkCount "sorted" 1 1 _) (wpAny_pure (wpAny_bind (hc _ fun us h1 tk hsz kk eu=>?_)))
 subst eu
 refine wpAny_bind (wpAny_newList ?_ (by rw [sizeLine_eq]; omega))
 have hoL:(h1.push (seqObj "list" us.toArray 0)).get? h1.objs.size=some (seqObj "list" us.toArray 0):=Heap.get?_push_size _ rfl
 have ltD:∀b o,s.heap.get? b=some o→b≠h1.objs.size:=fun b o e=>Nat.ne_of_lt (Heap.lt_size (kk b o e))
 have up:∀s':Shared,Kp h1.objs.size (h1.push (seqObj "list" us.toArray 0)) s'.heap→∀b o,s.heap.get? b=some o→s'.heap.get? b=some o:=fun s' k b o e=>k b o (ltD b o e) (Heap.get?_push_of_some _ (kk b o e))
 refine wpAny_bind (wpAny_holding (wpAny_call_entry slot_list_sort ⟨_,hoL,rfl⟩ entry_list_sort (Gk (κ:=κ) (lt:=lt) (s:={ s with heap:=h1.push (seqObj "list" us.toArray 0),toks:=tk }) hoL h64 hg hsm (fun h2 s' k=>hk h2 s' (up s' k)) (fun h2 s' k=>hl h2 s' (up s' k)) fun p h' c hp hrl k e=>⟨_,rfl,?_⟩) (args_list_sort _)))
 exact wpAny_pure ⟨_,rfl,h p h1.objs.size h' c tk hp hrl hsz (up { s with heap:=h' } k) e⟩
end
end L2
set_option maxHeartbeats 4000000
namespace L2
open PySem PySem.Spec PyProof.Rows PySem.W
def CV (h:Heap) (d:Addr) (es:Array DictEntry) (ep:Nat):Prop:=∃o,h.get? d=some o∧o.ExactDict∧o.data=.dict es ep
section
variable {prog:Program} {w:World} {A:Around} {E:Value→Shared→Prop} {s:Shared} {d it:Addr} {es:Array DictEntry} {ep i:Nat}
theorem CV.ty (h:CV s.heap d es ep):s.TypeIs (.ref d) "dict":=let ⟨o,ho,hc,_⟩:=h; ⟨o,ho,hc.1⟩
theorem M6 {Q:Value→Shared→Prop} (hd:(d==sysModules)=false) (hm:CV s.heap d es ep)
  (hQ:Q (.ref s.heap.objs.size) { s with heap:=s.heap.push { cls:=.type "dict_keyiterator",data:=.fields #[.ref d,.int 0 0,.int es.size 0,.int ep 0] } }):wpAny (model prog w) A (pyIter (.ref d)) Q E s:=by
 obtain ⟨o,ho,hc,hdat⟩:=id hm
 have hT:=hm.ty
 refine wpAny_pyIter_slot hT F.slot_dict_iter (wpAny_call_entry F.slot_dict_iter hT F.entry_dict_iter ?_ (F.args_dict_iter_1 _)); unfold Builtin.«dict.__iter__»
 refine wpAny_bind ?_; unfold Builtin.Dict.dictSlotNone
 refine wpAny_bind (wpAny_notOrdered_dict hT ?_); show wpAny _ _ (pure (Value.ref d)) _ _ s
 refine wpAny_pure ?_; show wpAny _ _ (Builtin.Dict.showsAll d >>= _) _ _ s
 unfold Builtin.Dict.showsAll; rw [if_neg (by rw [hd]; exact Bool.false_ne_true)]
 refine wpAny_bind (wpAny_pure (wpAny_bind (wpAny_dictEntries ho hdat (wpAny_bind (wpAny_dictEpoch ho hdat ?_)))))
 refine wpAny_bind (wpAny_newObj_type (wpAny_pure ⟨_,rfl,"dict_keyiterator",_,⟨_,Heap.get?_push_size _ rfl,rfl⟩,F.slot_dict_keyiterator_next.lookup,?_⟩)); simpa [rawInt] using hQ
theorem M7 {Q:Option Value→Shared→Prop} (hit:s.heap.IsKeyIter it d i es.size ep) (hm:CV s.heap d es ep) (hlt:i < es.size)
  (hQ:∀h',h'.IsKeyIter it d (i + 1) es.size ep→Heap.SameBut it s.heap h'→Q (some es[i].key) { s with heap:=h' }):wpAny (model prog w) A (pyNext (.ref it)) Q E s:=by
 obtain ⟨o,ho,hc,hd⟩:=id hit; obtain ⟨od,hod,hcd,hdd⟩:=id hm
 unfold pyNext; refine wpAny_bind (wpAny_attempt (wpAny_callSpecial?_slot (name:=Str.ofString "__next__") hit.typeIs F.slot_dict_keyiterator_next (wpAny_call_entry F.slot_dict_keyiterator_next hit.typeIs F.entry_dict_keyiterator_next ?_ (F.args_dict_keyiterator_next_1 _))))
 refine wpAny_bind (wpAny_pure ?_); refine wpAny_bind ?_; refine wpAny_bind ?_
 first | refine wpAny_bind (wpAny_typeNameOfWhole_keyiter hit.typeIs (wpAny_pure (wpAny_bind (wpAny_fieldsOf ho hd ?_)))) | refine wpAny_bind (wpAny_typeNameOf_keyiter hit.typeIs (wpAny_pure (wpAny_bind (wpAny_fieldsOf ho hd ?_))))
 have own:Builtin.Dict_items.ownsTuple "dict_keyiterator"=false:=by decide
 simp only [own,Bool.false_eq_true,if_false]; show wpAny _ _ (if (Value.ref d==Value.none)=true then _ else _) _ _ s
 rw [if_neg (show ¬((Value.ref d==Value.none)=true) from Bool.false_ne_true)]; refine wpAny_bind (wpAny_pure (wpAny_bind (wpAny_dictEntries hod hdd ?_)))
 rw [if_neg (by simp)]; refine wpAny_bind (wpAny_pure (wpAny_bind (wpAny_dictEpoch hod hdd ?_)))
 rw [if_neg (by simp)]; refine wpAny_pure ?_
 simp only [show ¬((i:Int) < 0) from by omega,if_false,Int.toNat_natCast,Array.getElem?_eq_getElem hlt]; refine wpAny_bind ?_
 first | refine wpAny_bind (wpAny_typeNameOfWhole_keyiter hit.typeIs (wpAny_pure (wpAny_bind (wpAny_isOneOf_keyiter hit.typeIs ?_)))) | refine wpAny_bind (wpAny_typeNameOf_keyiter hit.typeIs (wpAny_pure (wpAny_bind (wpAny_isOneOf_keyiter hit.typeIs ?_))))
 show wpAny _ _ (setField (.ref it) 1 (rawInt ((i:Int) + 1)) >>= _) _ _ s; refine wpAny_bind (wpAny_setField ho hd (by simp) ?_)
 have hit':(s.heap.update it (Obj.mapFields (·.setIfInBounds 1 (rawInt ((i:Int) + 1))))).IsKeyIter it d (i + 1) es.size ep:=⟨_,Heap.get?_update_self _ ho (Obj.isFreed_of_fields (Obj.data_mapFields hd _)),(Obj.cls_mapFields ..).trans hc,by rw [Obj.data_mapFields hd]; simp [rawInt]⟩
 refine wpAny_bind (wpAny_holding ?_); refine wpAny_bind (wpAny_isOneOf_keyiter (s:={ s with heap:=s.heap.update it (Obj.mapFields (·.setIfInBounds 1 (rawInt ((i:Int) + 1)))) }) hit'.typeIs ?_)
 show wpAny _ _ (pure es[i].key) _ _ _; exact wpAny_pure (wpAny_pure ⟨_,rfl,wpAny_pure (hQ _ hit' (Heap.SameBut.update ..))⟩)
theorem Q8 {Q:Option Value→Shared→Prop} (hh:A.handled=none) (hit:s.heap.IsKeyIter it d i es.size ep) (hm:CV s.heap d es ep) (hge:es.size≤i)
  (hQ:∀h',Heap.ExtBut it s.heap h'→Q none { s with heap:=h' }):wpAny (model prog w) A (pyNext (.ref it)) Q E s:=by
 obtain ⟨o,ho,hc,hd⟩:=id hit; obtain ⟨od,hod,hcd,hdd⟩:=id hm
 unfold pyNext; refine wpAny_bind (wpAny_attempt (wpAny_callSpecial?_slot (name:=Str.ofString "__next__") hit.typeIs F.slot_dict_keyiterator_next (wpAny_call_entry F.slot_dict_keyiterator_next hit.typeIs F.entry_dict_keyiterator_next ?_ (F.args_dict_keyiterator_next_1 _))))
 refine wpAny_bind (wpAny_pure ?_); refine wpAny_bind ?_; refine wpAny_bind ?_
 first | refine wpAny_bind (wpAny_typeNameOfWhole_keyiter hit.typeIs (wpAny_pure (wpAny_bind (wpAny_fieldsOf ho hd ?_)))) | refine wpAny_bind (wpAny_typeNameOf_keyiter hit.typeIs (wpAny_pure (wpAny_bind (wpAny_fieldsOf ho hd ?_))))
 have own:Builtin.Dict_items.ownsTuple "dict_keyiterator"=false:=by decide
 simp only [own,Bool.false_eq_true,if_false]; show wpAny _ _ (if (Value.ref d==Value.none)=true then _ else _) _ _ s
 rw [if_neg (show ¬((Value.ref d==Value.none)=true) from Bool.false_ne_true)]; refine wpAny_bind (wpAny_pure (wpAny_bind (wpAny_dictEntries hod hdd ?_)))
 rw [if_neg (by simp)]; refine wpAny_bind (wpAny_pure (wpAny_bind (wpAny_dictEpoch hod hdd ?_)))
 rw [if_neg (by simp)]; refine wpAny_pure ?_
 simp only [show ¬((i:Int) < 0) from by omega,if_false,Int.toNat_natCast,Array.getElem?_eq_none hge]; refine wpAny_bind ?_
 first | refine wpAny_bind (wpAny_typeNameOfWhole_keyiter hit.typeIs (wpAny_pure ?_)) | refine wpAny_bind (wpAny_typeNameOf_keyiter hit.typeIs (wpAny_pure ?_))
 show wpAny _ _ (setField (.ref it) 0 .none >>= _) _ _ s; refine wpAny_bind (wpAny_setField ho hd (by simp) ?_)
 show wpAny _ _ (newExc (.type "StopIteration") [] >>= _) _ _ _; refine wpAny_bind ?_; simp only [newExc,newTuple]
 refine wpAny_bind (wpAny_newObj_type ?_ (by size_fits)); refine wpAny_bind (m:=firstArgMember _ _) (wpAny_of_eq (a:=Value.none) (by first | rfl | (simp only [firstArgMember]; rfl)) ?_)
 refine wpAny_newObj_type ?_ (by size_fits); simp only [raiseNew]; refine wpAny_bind (wpAny_handled ?_)
 rw [show A.in1.handled=none from hh]; refine wpAny_bind (wpAny_pure (wpAny_throw ?_))
 refine wpAny_bind (wpAny_isInstance (T:="StopIteration") (b:=true) ⟨_,Heap.get?_push_size _ rfl,rfl⟩ isSubtype_stop ?_); exact wpAny_pure (hQ _ (((Heap.SameBut.update ..).extBut.push _).push _))
theorem Km (hh:A.handled=none) (hne:d≠it):Walks prog w A it [it,d] [it] es.size (fun i v=>(es[i]?).map (·.key)=some v) (fun i h=>h.IsKeyIter it d i es.size ep∧CV h d es ep) where
 sub:=fun b hb=>by simp at hb; simp [hb]
 frame:=fun _ _ _ st hk=>⟨st.1.at fun o e=>hk it (by simp) o e,let ⟨o,ho,r⟩:=st.2; ⟨o,hk d (by simp) o ho,r⟩⟩
 item:=fun i s Q E hi st hQ=>M7 st.1 st.2 hi fun h' hit' hs'=>hQ _ h' s.toks (by simp [hi]) ⟨hit',let ⟨o,ho,r⟩:=st.2; ⟨o,(hs'.2 d hne).trans ho,r⟩⟩ fun b o hb e=>(hs'.2 b fun z=>hb (by simp [z])).trans e
 done:=fun s Q E st hQ=>Q8 hh st.1 st.2 (Nat.le_refl _) fun h' he'=>hQ h' s.toks fun b o hb e=>he' b o (fun z=>hb (by simp [z])) e
 self:=fun _ _ _ _ st hQ=>wpAny_pyIter_keyiter st.1 hQ
theorem Q9 (lo:(d==sysModules)=false):KdlSrc prog w "dict" d d es.size (fun i v=>(es[i]?).map (·.key)=some v) (fun h=>CV h d es ep) where
 type:=fun _ hm=>hm.ty
 there:=fun _ hm=>let ⟨_,ho,_⟩:=hm; ⟨Heap.lt_size ho,Heap.lt_size ho⟩
 keep:=fun _ _ hm hk=>let ⟨o,ho,r⟩:=hm; ⟨o,hk d (.inl rfl) o ho,r⟩
 notList:=by decide
 notTuple:=by decide
 hint:=fun _ _ _ _ hm hq=>kdl_hint_dict hm.ty hq
 iter:=fun _ _ hh hm=>⟨_,_,(fun _ _ hq=>M6 lo hm hq),Km hh (let ⟨_,ho,_⟩:=hm; Nat.ne_of_lt (Heap.lt_size ho)),⟨⟨_,Heap.get?_push_size _ rfl,rfl,rfl⟩,let ⟨o,ho,r⟩:=hm; ⟨o,Heap.get?_push_of_some _ ho,r⟩⟩⟩
theorem CW {T:String} {r d:Addr} {n:Nat} {P:Nat→Value→Prop} {OK:Heap→Prop} {R:List Value→Shared→Prop} (K:KdlSrc prog w T r d n P OK) (hh:A.handled=none) (hok:OK s.heap) (hn:n≤sizeLine)
  (h:∀(h':Heap) (tk:Nat) (acc:Array Value),s.heap.objs.size≤h'.objs.size→(∀b o,s.heap.get? b=some o→h'.get? b=some o)→ItemsOf P acc n→R acc.toList { s with heap:=h',toks:=tk }):
  wpAny (model prog w) A (collect (.ref r)) R E s:=by
 have hlt:=K.there _ hok
 unfold collect; refine wpAny_bind (wpAny_runValue (codeAny_builtin entry_proto_collect' ?_)); rw [Around.under_plainId PySem.F.plain_proto_collect _]
 show wpAny _ A.in1 (newList [] >>= fun l=>again (.builtin "list.__iadd__" ⟨[l,.ref r],[]⟩)) _ _ s; refine wpAny_bind (wpAny_newObj_type ?_)
 refine wpAny_pure ⟨plainId_quiet PySem.F.plain_list_iadd _,codeAny_builtin entry_list_iadd' ?_⟩; rw [Around.under_plainId PySem.F.plain_list_iadd _]
 have hS:(s.heap.push { cls:=.type "list",data:=.seq ([]:List Value).toArray }).get? s.heap.objs.size=some { cls:=.type "list",data:=.seq #[] }:=Heap.get?_push_size _ rfl
 show wpAny _ A.in1 (Builtin.List.listExtendWith (.ref s.heap.objs.size) (.ref r) (.ref s.heap.objs.size)) _ _ _
 have key:=kdl_extend (A:=A) (s:={ s with heap:=s.heap.push { cls:=.type "list",data:=.seq ([]:List Value).toArray } }) (R:=fun (q:Result) (s':Shared)=>∃(h':Heap) (tk:Nat) (acc':Array Value) (c':Nat),q=.ok (.ret (.ref s.heap.objs.size))∧s'={ s with heap:=h',toks:=tk }∧(∀b o,s.heap.get? b=some o→h'.get? b=some o)∧h'.get? s.heap.objs.size=some { cls:=.type "list",dict:=none,data:=.seq acc' c',slots:=#[] }∧ItemsOf P acc' n)
  K hh (K.keep _ _ hok fun b _ o e=>Heap.get?_push_of_some _ e) s.heap.objs.size (Nat.ne_of_gt hlt.1) (Nat.ne_of_gt hlt.2) (.ref s.heap.objs.size) 0 hS (fun h' tk acc' c' hk hS' hacc=>⟨h',tk,acc',c',rfl,rfl,fun b o e=>hk b o (Nat.ne_of_lt (Heap.lt_size e)) (Heap.get?_push_of_some _ e),hS',hacc⟩) hn
 refine wpAny_mono key (fun fin s' x=>?_) fun e s' x=>?_
 ·cases fin with
  | done f=>
   obtain ⟨h',tk,acc',c',e,rfl,hk,hS',hacc⟩:=x
   cases e; show wpAny _ A (load s.heap.objs.size >>= _) _ _ _
   exact wpAny_bind (wpAny_load hS' (wpAny_pure (h h' tk acc' (Nat.le_of_lt (Heap.lt_size hS')) hk hacc)))
  | again c₁=>
   refine ⟨x.1,codeAny_mono x.2 fun q s₂ y=>?_⟩
   obtain ⟨h',tk,acc',c',rfl,rfl,hk,hS',hacc⟩:=y
   show wpAny _ A (load s.heap.objs.size >>= _) _ _ _; exact wpAny_bind (wpAny_load hS' (wpAny_pure (h h' tk acc' (Nat.le_of_lt (Heap.lt_size hS')) hk hacc)))
 ·obtain ⟨_,_,_,_,e',_⟩:=x; cases e'
end
end L2
set_option maxHeartbeats 4000000
namespace L2
open PySem PySem.Spec PyProof.Rows PySem.W
theorem tV:∀{us:List Value} {ns:List Str},StrsAre us ns→Vals (ns.map V.str) us
 | _,_,.nil=>.nil
 | _,_,.cons _ t r=>.cons ⟨t,rfl⟩ (tV r)
section
variable {X:Cx}
theorem tW:dF X (.builtin "sorted") (fun xs H Q=>∃(p:Addr) (ns:List Int),xs=[.ref p]∧dW X.K H p (ns.map V.int)∧ns.length < 64∧∀(l:Addr) (ns':List Int),H l=none→ns'.Perm ns→ns'.Pairwise (·≤·)→Q (.ref l) (upd H l (.lst (ns'.map V.int)))):=by
 intro pins s σ H xs us Q I r h
 obtain ⟨p,ns,rfl,hp,h64,q⟩:=h
 obtain ⟨u,rfl,ru⟩:=vals1 r
 cases ru
 obtain ⟨its,rv,pl,_⟩:=I.list hp
 have hi:IntsAre its ns:=intsAre_of rv
 have hl:=rv.length
 rw [List.length_map] at hl
 refine sorted_ints pl.isList hi (by omega) fun out ns' a1 a2 a3=>?_
 obtain ⟨e,he⟩:=sortedAll_at s.heap its out
 have hz:ns'.length≤sizeLine:=by rw [a2.length_eq,sizeLine_eq]; omega
 exact ⟨.ref (s.heap.objs.size + 1),_,I.laid (o:=.lst (ns'.map V.int)) (t':=s.toks) (fun _ _=>sortedAll_old) (Nat.le_succ _) ⟨by rw [List.length_map]; exact hz,out.toList,e,pU a1,by simpa [seqObj] using he⟩,rfl,q _ ns' (I.hok.fresh (Nat.le_succ _)) a2 a3⟩
theorem tX:dF X (.builtin "sorted") (fun xs H Q=>∃(p:Addr) (ns:List Str),xs=[.ref p]∧dW X.K H p (ns.map V.str)∧ns.length < 64∧∀(l:Addr) (ns':List Str),H l=none→ns'.Perm ns→sortedS ns'=true→Q (.ref l) (upd H l (.lst (ns'.map V.str)))):=by
 intro pins s σ H xs us Q I r h
 obtain ⟨p,ns,rfl,hp,h64,q⟩:=h
 obtain ⟨u,rfl,ru⟩:=vals1 r
 cases ru
 obtain ⟨its,rv,pl,_⟩:=I.list hp
 have hi:StrsAre its ns:=qF rv
 have hl:=rv.length
 rw [List.length_map] at hl
 refine sorted_strs pl.isList hi (by omega) fun out ns' a1 a2 a3=>?_
 obtain ⟨e,he⟩:=sortedAll_at s.heap its out
 have hz:ns'.length≤sizeLine:=by rw [a2.length_eq,sizeLine_eq]; omega
 exact ⟨.ref (s.heap.objs.size + 1),_,I.laid (o:=.lst (ns'.map V.str)) (t':=s.toks) (fun _ _=>sortedAll_old) (Nat.le_succ _) ⟨by rw [List.length_map]; exact hz,out.toList,e,tV a1,by simpa [seqObj] using he⟩,rfl,q _ ns' (I.hok.fresh (Nat.le_succ _)) a2 a3⟩
theorem jh.aW {k:Nat} {A:Around} (r:jh k A):A.units + 1 < cLine:=by have:=r.un; omega
abbrev Row:=Addr×List Key
def TupAt (h:Heap) (r:Row):Prop:=∃its,Vals (r.2.map kV) its∧IsTup h r.1 its.toArray
theorem TupAt.keep {h h':Heap} {r:Row} (t:TupAt h r) (k:∀b o,h.get? b=some o→h'.get? b=some o):TupAt h' r:=by
 obtain ⟨its,v,o,e,c⟩:=t
 exact ⟨its,v,o,k _ _ e,c⟩
theorem Ii {h:Heap} {b:Bool} {sh:List Bool}:∀{rows:List Row},(∀r∈rows,TupAt h r∧r.2.map gA=b::sh)→∃fs,KatTups h (rows.map fun r=>Value.ref r.1) fs∧fs.length=rows.length∧∀f∈fs,∃k,RelV (kV k) f∧gA k=b
 | [],_=>⟨[],KatTups.nil,rfl,by simp⟩
 | r::rows,ha=>by
  obtain ⟨fs,t,l,g⟩:=Ii (rows:=rows) fun q hq=>ha q (List.mem_cons_of_mem _ hq)
  obtain ⟨⟨its,v,o,e,c,n,d⟩,s⟩:=ha r List.mem_cons_self
  obtain ⟨a,ks⟩:=r
  cases ks with
  | nil=>cases s
  | cons k ks=>
   cases v with
   | @cons _ u _ us v1 v2=>
    refine ⟨u::fs,KatTups.cons e c d (by simp) t,by simp [l],fun f hf=>?_⟩
    rcases List.mem_cons.mp hf with rfl | hf
    ·exact ⟨k,v1,(List.cons.inj s).1⟩
    ·exact g f hf
theorem Ko {M:Model} {h:Heap} {k:Key} {f:Value} {b:Bool} (r:RelV (kV k) f) (e:gA k=b):Looks M h (typeOf f) (if b=true then .type "int" else .type "str"):=by
 subst e
 cases k with
 | inl i=>obtain ⟨t,rfl⟩:=r; exact Looks.of_pure rfl
 | inr i=>obtain ⟨t,rfl⟩:=r; exact Looks.of_pure rfl
theorem wj (rows:List Row) {i:Nat} (hi:i < rows.length):(rows.map fun r=>Value.ref r.1).getD i Value.none=.ref rows[i].1:=by simp [List.getD,hi]
def rowAt (rows:List Row) (i:Nat):List Key:=((rows[i]?).map (·.2)).getD []
theorem zb {prog:Program} {w:World} {A:Around} {s':Shared} {rows:List Row} {b:Bool} {sh:List Bool} (ha:∀r∈rows,TupAt s'.heap r∧r.2.map gA=b::sh) (h0:0 < rows.length) (Q:SortKind→Shared→Prop) (q:Q (tuples' true) s'):
  wpAny (model prog w) A (keyKind' (rows.map fun r=>Value.ref r.1).toArray) Q (fun _ _=>False) s':=by
 obtain ⟨fs,t,l,g⟩:=Ii ha
 refine kat_kind (T:=if b=true then .type "int" else .type "str") t (by omega) (fun v hv=>?_) (by cases b <;> rfl) (by cases b <;> exact q)
 obtain ⟨k,r,e⟩:=g v hv
 exact Ko r e
theorem Ra {prog:Program} {w:World} {A:Around} {s':Shared} {rows:List Row} {sh:List Bool} (ha:∀r∈rows,TupAt s'.heap r∧r.2.map gA=sh) {i j:Nat} (hi:i < rows.length) (hj:j < rows.length) (C:Bool→Shared→Prop) (q:C (cL (rowAt rows i) (rowAt rows j)) s'):
  kas_ask prog w A (tuples' true) (rows.map fun r=>Value.ref r.1) i j C s':=by
 obtain ⟨⟨its,v,o,e,c,n,d⟩,s1⟩:=ha rows[i] (List.getElem_mem hi)
 obtain ⟨⟨its2,v2,o2,e2,c2,n2,d2⟩,s2⟩:=ha rows[j] (List.getElem_mem hj)
 unfold kas_ask
 rw [wj rows hi,wj rows hj]
 have l1:=v.length
 have l2:=v2.length
 have l3:rows[i].2.length=rows[j].2.length:=by
  have:=congrArg List.length (s1.trans s2.symm)
  simpa using this
 refine kat_lt e d e2 d2 ?_
 have ez:decide (its.toArray.size < its2.toArray.size)=false:=by
  rw [decide_eq_false]
  simp only [List.size_toArray]
  rw [List.length_map] at l1 l2
  omega
 rw [ez]
 have q':C (cL rows[i].2 rows[j].2) s':=by
  unfold rowAt at q
  rw [List.getElem?_eq_getElem hi,List.getElem?_eq_getElem hj] at q
  exact q
 exact CT (by simpa using v) (by simpa using v2) (s1.trans s2.symm) q'
theorem tY {rows:List Row} {p:List Nat} (h:p.Perm (List.range rows.length)):(p.map fun i=>rows.getD i (0,[])).Perm rows:=by
 have e:(List.range rows.length).map (fun i=>rows.getD i (0,[]))=rows:=List.ext_getElem (by simp) fun i h1 h2=>by simp [List.getD,h2]
 exact (h.map _).trans (by rw [e])
theorem zc {rows:List Row} {p:List Nat} (h:p.Perm (List.range rows.length)):(p.map fun i=>(rows.map fun r=>Value.ref r.1).getD i Value.none)=(p.map fun i=>rows.getD i (0,[])).map fun r=>Value.ref r.1:=by
 rw [List.map_map]
 refine List.map_congr_left fun i hi=>?_
 have hlt:=List.mem_range.mp (h.mem_iff.mp hi)
 rw [wj rows hlt]
 simp [List.getD,hlt]
theorem Ij:∀{rows:List Row} {us:List Value},Vals (rows.map fun r=>V.ref r.1) us→us=rows.map fun r=>Value.ref r.1
 | [],_,h=>by cases h; rfl
 | r::rows,_,h=>by
  cases h with
  | cons a b=>
   cases a
   rw [Ij b]
   rfl
theorem tZ:∀(rows:List Row),Vals (rows.map fun r=>V.ref r.1) (rows.map fun r=>Value.ref r.1)
 | []=>.nil
 | r::rows=>.cons rfl (tZ rows)
end
end L2
set_option maxHeartbeats 4000000
namespace L2
open PySem PySem.Spec PyProof.Rows PySem.W
section
variable {K:PySem.W.Frag} {T:rA} {J:It} {n:Nat} {vs:Nat→List V} {G:Hp→Prop} {ts:TT} {em:TM} {fs:St} {H0 H1:Hp} {D:Addr} {done:Hp→Prop}
end
end L2
set_option maxHeartbeats 4000000
namespace L2
open PySem PySem.Spec PyProof.Rows PySem.W
theorem M9 (A:Around) (s:Shared) {a b:Key} {u v:Value} (ra:RelV (kV a) u) (rb:RelV (kV b) v) (ht:gA a=gA b):SeqAt.EqAt A s u v (decide (a=b)):=by
 rw [←Ih ht]
 exact Ge ra rb (rP a) (rP b)
theorem CZ (A:Around) (s:Shared) {a b:Key} {u v:Value} (ra:RelV (kV a) u) (rb:RelV (kV b) v) (ht:gA a=gA b) (prog:Program) (w:World) (E:Value→Shared→Prop) (Q:Value→Shared→Prop) (h:Q (.bool (kLt a b)) s):
  wpAny (model prog w) A (richCompare .Lt u v) Q E s:=by
 cases a with
 | inl i=>
  cases b with
  | inr y=>cases ht
  | inl j=>
   obtain ⟨t,rfl⟩:=ra
   obtain ⟨t',rfl⟩:=rb
   exact (lt_int h:wpAny (model prog w) A (compareOp .Lt _ _) Q E s)
 | inr x=>
  cases b with
  | inl y=>cases ht
  | inr y=>
   obtain ⟨t,rfl⟩:=ra
   obtain ⟨t',rfl⟩:=rb
   exact (lt_str h:wpAny (model prog w) A (compareOp .Lt _ _) Q E s)
section
open PySem.SeqAt
open PySem.AutoSeq1 (wpAny_loadPart')
open PySem.MeetsSeq PySem.MeetsSeq2 PySem.MeetsSeq3
theorem yK (l b:Addr) (items items2:Array Value) (n n2:Nat) (dd dd2:Option Addr) (sl sl2:Array (Option Value)) (ns ms:List Key) (hi:Vals (ns.map kV) items.toList) (hj:Vals (ms.map kV) items2.toList) (hty:ns.map gA=ms.map gA):
  Meets (Builtin.«tuple.__lt__» ⟨[.ref l,.ref b],[]⟩)
   (fun _ R s=>s.heap.get? l=some { cls:=.type "tuple",dict:=dd,data:=.seq items n,slots:=sl }∧s.heap.get? b=some { cls:=.type "tuple",dict:=dd2,data:=.seq items2 n2,slots:=sl2 }∧R (.ok (.ret (.bool (cL ns ms)))) s):=
 .of_wp fun prog w A R s h=>by
  obtain ⟨hp,g,d,tk,os⟩:=s; obtain ⟨hl,hb,h⟩:=h
  have f2:=AutoSeq1.sub_tuple_tuple
  have z0:ns.length=ms.length:=by have:=congrArg List.length hty; simpa using this
  have z1:items.size=ns.length:=by have:=hi.length; rw [List.length_map] at this; simpa using this.symm
  have z2:items2.size=ms.length:=by have:=hj.length; rw [List.length_map] at this; simpa using this.symm
  wp_walk using wpAny_loadPart' hl,wpAny_loadPart' hb,wpAny_forIn_list _ (fun rest b s'=>b.1=none∧s'=⟨hp,g,d,tk,os⟩∧∃(vs ws:List Value) (ns' ms':List Key),rest=vs.zip ws∧
   Vals (ns'.map kV) vs∧Vals (ms'.map kV) ws∧ns'.map gA=ms'.map gA∧R (.ok (.ret (.bool (cL ns' ms')))) ⟨hp,g,d,tk,os⟩) _
  case turn=>
   rintro ⟨y,x⟩ rest b s' ⟨hb',rfl,vs,ws,ns',ms',hz,Zc,hwi,hlen,hR⟩
   cases ns' with
   | nil=>cases Zc; rw [List.zip_nil_left] at hz; cases hz
   | cons a ns'=>
    cases ms' with
    | nil=>cases hlen
    | cons c ms'=>
     cases Zc with
     | cons r1 X4=>
      cases hwi with
      | cons r2 X5=>
       rw [List.zip_cons_cons] at hz
       injection hz with hyx hrest
       injection hyx with hy hx
       subst hy hx
       have t1:gA a=gA c:=(List.cons.inj hlen).1
       have t2:=(List.cons.inj hlen).2
       unfold cL at hR
       refine wpAny_bind (M9 A.in1 ⟨hp,g,d,tk,os⟩ r1 r2 t1 prog w _ _ ?_)
       by_cases hac:a=c
       ·rw [if_pos hac] at hR
        rw [decide_eq_true hac]
        wp_walk
        exact ⟨rfl,rfl,_,_,_,_,hrest,X4,X5,t2,hR⟩
       ·rw [if_neg hac] at hR
        rw [decide_eq_false hac]
        have hri:=CZ A.in1 ⟨hp,g,d,tk,os⟩ r1 r2 t1 prog w
        wp_walk using hri
        exact ⟨_,rfl,by simpa using hR⟩
  case fin=>
   rintro ⟨b1,b2⟩ s' ⟨hb',rfl,vs,ws,ns',ms',hz,Zc,hwi,hlen,hR⟩
   simp only at hb'
   subst hb'
   have hv:cL ns' ms'=decide (items.size < items2.size):=by
    rw [decide_eq_false (by omega)]
    cases ns' with
    | nil=>unfold cL; rfl
    | cons a ns'=>
     cases ms' with
     | nil=>cases hlen
     | cons c ms'=>
      cases Zc with
      | cons r1 X4=>
       cases hwi with
       | cons r2 X5=>
        rw [List.zip_cons_cons] at hz
        cases hz
   rw [hv] at hR
   wp_walk
   exact ⟨_,rfl,by simpa [Builtin.Tuple.tupleCompareSizes] using hR⟩
  case h=>
   exact ⟨rfl,rfl,items.toList,items2.toList,ns,ms,rfl,hi,hj,hty,h⟩
end
theorem Gm {prog:Program} {w:World} {A:Around} {E:Value→Shared→Prop} {s:Shared} {l b:Addr} {items items2:Array Value} {ns ms:List Key} {Q:Value→Shared→Prop} (hl:IsTup s.heap l items) (hb:IsTup s.heap b items2) (hi:Vals (ns.map kV) items.toList) (hj:Vals (ms.map kV) items2.toList) (hty:ns.map gA=ms.map gA)
  (hu:A.units < cLine) (h:Q (.bool (cL ns ms)) s):wpAny (model prog w) A (compareOp .Lt (.ref l) (.ref b)) Q E s:=by
 obtain ⟨⟨cls,dd,data,sl⟩,ho,hc,n,hd⟩:=id hl
 obtain ⟨⟨cls2,dd2,data2,sl2⟩,ho2,hc2,n2,hd2⟩:=id hb
 simp only at hc hd hc2 hd2
 subst hc hd hc2 hd2
 exact richCompare_meets_room (op:=.Lt) ⟨_,ho,rfl⟩ ⟨_,ho2,rfl⟩ PySem.F.slot_tuple_lt PySem.F.entry_tuple_lt (PySem.F.args_tuple_lt_2 _ _) (yK l b items items2 n n2 dd dd2 sl sl2 ns ms hi hj hty)
  ⟨ho,ho2,show Value.bool (cL ns ms)≠Value.notImplemented∧Q (.bool (cL ns ms)) s from ⟨(fun x=>nomatch x),h⟩⟩ hu
mutual
def RX (H:Hp):PyData→V→Prop
 | .none,v=>v=.non
 | .bool b,v=>v=.bl b
 | .int i,v=>v=.int i
 | .str x,v=>v=.str x
 | .list ds,v=>∃a vs,v=.ref a∧H a=some (.lst vs)∧Dc H ds vs
 | .tuple ds,v=>∃a vs,v=.ref a∧H a=some (.tup vs)∧Dc H ds vs
 | .dict _,_=>False
def Dc (H:Hp):List PyData→List V→Prop
 | [],vs=>vs=[]
 | d::ds,vs=>∃v r,vs=v::r∧RX H d v∧Dc H ds r
end
mutual
theorem RX.same {H H':Hp} (s:bz H H'):∀{d:PyData} {v:V},RX H d v→RX H' d v
 | .none,_,h=>h
 | .bool _,_,h=>h
 | .int _,_,h=>h
 | .str _,_,h=>h
 | .list ds,_,h=>by
  obtain ⟨a,vs,e,q,r⟩:=h
  exact ⟨a,vs,e,s _ _ q,Dc.same s r⟩
 | .tuple ds,_,h=>by
  obtain ⟨a,vs,e,q,r⟩:=h
  exact ⟨a,vs,e,s _ _ q,Dc.same s r⟩
theorem Dc.same {H H':Hp} (s:bz H H'):∀{ds:List PyData} {vs:List V},Dc H ds vs→Dc H' ds vs
 | [],_,h=>h
 | d::ds,vs,h=>by
  obtain ⟨v,r,e,q,t⟩:=h
  exact ⟨v,r,e,RX.same s q,Dc.same s t⟩
end
mutual
theorem RX.rd {K:PySem.W.Frag} {H:Hp}:∀{d:PyData} {v:V},RX H d v→RD K H d v
 | .none,_,h=>h
 | .bool _,_,h=>h
 | .int _,_,h=>h
 | .str _,_,h=>h
 | .list ds,_,h=>by
  obtain ⟨a,vs,e,q,r⟩:=h
  exact ⟨a,vs,e,dW.of q,Dc.rd r⟩
 | .tuple ds,_,h=>by
  obtain ⟨a,vs,e,q,r⟩:=h
  exact ⟨a,vs,e,jz.of q,Dc.rd r⟩
theorem Dc.rd {K:PySem.W.Frag} {H:Hp}:∀{ds:List PyData} {vs:List V},Dc H ds vs→yZ K H ds vs
 | [],_,h=>h
 | d::ds,vs,h=>by
  obtain ⟨v,r,e,q,t⟩:=h
  exact ⟨v,r,e,RX.rd q,Dc.rd t⟩
end
def X6:PyData→Value
 | .none=>.type "NoneType"
 | .bool _=>.type "bool"
 | .int _=>.type "int"
 | .str _=>.type "str"
 | .list _=>.type "list"
 | .tuple _=>.type "tuple"
 | .dict _=>.type "dict"
theorem RX.ty {K:PySem.W.Frag} {H:Hp} {d:PyData} {v:V} (h:RX H d v):oY K H v (X6 d):=by
 cases d with
 | none=>cases (show v=.non from h); exact .non
 | bool b=>cases (show v=.bl b from h); exact .bl b
 | int i=>cases (show v=.int i from h); exact .int i
 | str x=>cases (show v=.str x from h); exact .str x
 | list ds=>obtain ⟨a,vs,rfl,e,_⟩:=h; exact .lst e
 | tuple ds=>obtain ⟨a,vs,rfl,e,_⟩:=h; exact .tup e
 | dict ds=>exact (show False from h).elim
def isInt:PyData→Bool
 | .int _=>true
 | _=>false
section
variable {X:Cx}
theorem Gn (hu:X.A.units < cLine):jQ X (compareOp .Lt) (fun x y H Q=>∃a b ks js,x=.ref a∧y=.ref b∧H a=some (.tup (ks.map kV))∧H b=some (.tup (js.map kV))∧ks.map gA=js.map gA∧Q (.bl (cL ks js)) H):=by
 intro pins s σ H x y v u Q I rx ry h
 obtain ⟨a,b,ks,js,rfl,rfl,ha,hb,ht,q⟩:=h
 cases rx
 cases ry
 obtain ⟨_,its,r1,p1⟩:=(show cF X.prog X.w H s.heap a (.tup (ks.map kV)) from I.hok a _ ha)
 obtain ⟨_,its2,r2,p2⟩:=(show cF X.prog X.w H s.heap b (.tup (js.map kV)) from I.hok b _ hb)
 exact Gm p1 p2 (by simpa using r1) (by simpa using r2) ht hu (bU I q rfl)
theorem qG (hu:X.A.units < cLine):jQ X (compareOp .Lt) (fun x y H Q=>(∃a b,x=kV a∧y=kV b∧gA a=gA b∧Q (.bl (kLt a b)) H)∨∃a b ks js,x=.ref a∧y=.ref b∧H a=some (.tup (ks.map kV))∧H b=some (.tup (js.map kV))∧ks.map gA=js.map gA∧Q (.bl (cL ks js)) H):=by
 refine jQ.or ?_ (Gn hu)
 intro pins s σ H x y v u Q I rx ry h
 obtain ⟨a,b,rfl,rfl,ht,q⟩:=h
 exact CZ X.A s rx ry ht _ _ _ _ (bU I q rfl)
end
end L2
set_option maxHeartbeats 4000000
namespace L2
open PySem PySem.Spec PyProof.Rows PySem.W
structure Ord (lt:Nat→Nat→Bool):Prop where
 Gp:∀a b,lt a b=true→lt b a=false
 trans:∀a b c,lt b a=false→lt c b=false→lt c a=false
section
variable {N:Nat} {lt:Nat→Nat→Bool} (O:Ord lt)
abbrev at0 (p:Array Nat) (i:Nat):Nat:=p.getD i 0
def Up (lt:Nat→Nat→Bool) (p:Array Nat) (n:Nat):Prop:=∀i j,i < j→j < n→lt (at0 p j) (at0 p i)=false
def Dn (lt:Nat→Nat→Bool) (p:Array Nat) (n:Nat):Prop:=∀i j,i < j→j < n→lt (at0 p i) (at0 p j)=false
def Lk (lt:Nat→Nat→Bool) (p:Array Nat) (i j:Nat):Prop:=∀a b,i≤a→a < j→i≤b→b < j→lt (at0 p a) (at0 p b)=false
theorem qH (p:Array Nat) (i:Nat):at0 p i=(p[i]?).getD 0:=Array.getD_eq_getD_getElem?
theorem o9 {p:Array Nat} {i j:Nat} (hj:j≤p.size) (k:Nat):at0 (kas_rev p i j) k=if i≤k∧k < j then at0 p (i + j - 1 - k) else at0 p k:=by
 rw [qH,qH,qH]
 unfold kas_rev
 rw [getElem?_mirror_all hj]
 split <;> rfl
theorem Nb {p:Array Nat} {k l:Nat} (hk:k < p.size) (hl:l≤k) (x:Nat):at0 (bubble p k (k - l)) x=if x=l then at0 p k else if l < x∧x≤k then at0 p (x - 1) else at0 p x:=by
 rw [qH,qH,qH,qH,getElem?_bubble hk (k - l) (by omega)]
 have e:k - (k - l)=l:=by omega
 rw [e]
 split
 ·rfl
 ·split <;> rfl
theorem KP.size {p:Array Nat} (h:KP N p):p.size=N:=by
 have:=h.length_eq
 rw [List.length_range] at this
 simpa using this
include O
theorem Ord.WT (a:Nat):lt a a=false:=by
 cases e:lt a a with
 | false=>rfl
 | true=>rw [O.Gp a a e] at e; cases e
theorem Up.succ {p:Array Nat} {n:Nat} (h:Up lt p n) (hn:1≤n) (hs:lt (at0 p n) (at0 p (n - 1))=false):Up lt p (n + 1):=fun i j hij hj=>by
 by_cases e:j < n
 ·exact h i j hij e
 ·have ej:j=n:=by omega
  subst ej
  by_cases ei:i=j - 1
  ·rw [ei]; exact hs
  ·exact O.trans _ _ _ (h i (j - 1) (by omega) (by omega)) hs
theorem Dn.succ {p:Array Nat} {n:Nat} (h:Dn lt p n) (hn:1≤n) (hs:lt (at0 p (n - 1)) (at0 p n)=false):Dn lt p (n + 1):=fun i j hij hj=>by
 by_cases e:j < n
 ·exact h i j hij e
 ·have ej:j=n:=by omega
  subst ej
  by_cases ei:i=j - 1
  ·rw [ei]; exact hs
  ·exact O.trans _ _ _ hs (h i (j - 1) (by omega) (by omega))
theorem Dn.like {p:Array Nat} {n i j:Nat} (h:Dn lt p n) (l:Lk lt p i j) (hj:j≤p.size) (hn:j≤n):Dn lt (kas_rev p i j) n:=fun a b hab hb=>by
 rw [o9 hj,o9 hj]
 by_cases ha:i≤a∧a < j
 ·rw [if_pos ha]
  by_cases hb':i≤b∧b < j
  ·rw [if_pos hb']
   exact l _ _ (by omega) (by omega) (by omega) (by omega)
  ·rw [if_neg hb']
   exact h _ _ (by omega) (by omega)
 ·rw [if_neg ha]
  by_cases hb':i≤b∧b < j
  ·rw [if_pos hb']
   exact h _ _ (by omega) (by omega)
  ·rw [if_neg hb']
   exact h _ _ (by omega) (by omega)
theorem Dn.turn {p:Array Nat} {n:Nat} (h:Dn lt p n) (hn:n≤p.size):Up lt (kas_rev p 0 n) n:=fun a b hab hb=>by
 rw [o9 hn,o9 hn,if_pos ⟨by omega,by omega⟩,if_pos ⟨by omega,by omega⟩]
 exact h _ _ (by omega) (by omega)
theorem Gq {p:Array Nat} (h:KP N p) (h0:0 < N):∀f n,1≤n→Up lt p n→dR N lt (kas_asc p f n) fun m=>Up lt p m∧n≤m∧m≤n + f∧(m=n + f∨lt (at0 p m) (at0 p (m - 1))=true)
 | 0,n,hn,u=>⟨u,Nat.le_refl _,Nat.le_refl _,.inl rfl⟩
 | f + 1,n,hn,u=>by
  refine ⟨h.ix h0 _,h.ix h0 _,?_⟩
  dsimp only
  split
  ·rename_i e
   exact ⟨u,Nat.le_refl _,by omega,.inr e⟩
  ·rename_i e
   refine (Gq h h0 f (n + 1) (by omega) (u.succ O hn (by simpa using e))).mono fun m hm=>?_
   obtain ⟨a,b,c,d⟩:=hm
   refine ⟨a,by omega,by omega,?_⟩
   rcases d with d | d
   ·left; omega
   ·exact .inr d
theorem vm (h0:0 < N):∀f (p:Array Nat) n q,KP N p→1≤n→q < n→n + f≤N→Dn lt p n→Lk lt p (n - (q + 1)) n→dR N lt (kas_desc f p n q) fun r=>KP N r.1∧1≤r.2.1∧r.2.2 < r.2.1∧r.2.1≤n + f∧Dn lt r.1 r.2.1∧Lk lt r.1 (r.2.1 - (r.2.2 + 1)) r.2.1
 | 0,p,n,q,h,hn,hq,hf,d,l=>⟨h,hn,hq,Nat.le_refl _,d,l⟩
 | f + 1,p,n,q,h,hn,hq,hf,d,l=>by
  have sz:=h.size
  have one:∀(p:Array Nat),Lk lt p (n + 1 - (0 + 1)) (n + 1):=fun p a b h1 h2 h3 h4=>by
   have e1:a=n:=by omega
   have e2:b=n:=by omega
   rw [e1,e2]
   exact O.WT _
  refine ⟨h.ix h0 _,h.ix h0 _,?_⟩
  dsimp only
  split
  ·rename_i e
   have e':lt (at0 p (n - 1)) (at0 p n)=false:=O.Gp _ _ e
   split
   ·have hj:n≤p.size:=by omega
    have dl:=d.like O l hj (Nat.le_refl _)
    have hs:lt (at0 (kas_rev p (n - (q + 1)) n) (n - 1)) (at0 (kas_rev p (n - (q + 1)) n) n)=false:=by
     rw [o9 hj,o9 hj,if_pos ⟨by omega,by omega⟩,if_neg (by omega)]
     exact O.trans _ _ _ e' (l _ _ (by omega) (by omega) (by omega) (by omega))
    refine (vm h0 f _ (n + 1) 0 (h.rev _ _) (by omega) (by omega) (by omega) (dl.succ O hn hs) (one _)).mono fun r hr=>?_
    obtain ⟨a1,a2,a3,a4,a5,a6⟩:=hr
    exact ⟨a1,a2,a3,by omega,a5,a6⟩
   ·refine (vm h0 f _ (n + 1) 0 h (by omega) (by omega) (by omega) (d.succ O hn e') (one _)).mono fun r hr=>?_
    obtain ⟨a1,a2,a3,a4,a5,a6⟩:=hr
    exact ⟨a1,a2,a3,by omega,a5,a6⟩
  ·rename_i e
   have e1:lt (at0 p n) (at0 p (n - 1))=false:=by simpa using e
   refine ⟨h.ix h0 _,h.ix h0 _,?_⟩
   dsimp only
   split
   ·exact ⟨h,hn,hq,(by show n≤n + (f + 1); omega),d,l⟩
   ·rename_i e'
    have e2:lt (at0 p (n - 1)) (at0 p n)=false:=by simpa using e'
    have l2:Lk lt p (n + 1 - (q + 1 + 1)) (n + 1):=fun a b h1 h2 h3 h4=>by
     have e3:n + 1 - (q + 1 + 1)=n - (q + 1):=by omega
     rw [e3] at h1 h3
     by_cases ha:a=n
     ·by_cases hb:b=n
      ·rw [ha,hb]; exact O.WT _
      ·rw [ha]
       exact O.trans _ _ _ (l (n - 1) b (by omega) (by omega) (by omega) (by omega)) e1
     ·by_cases hb:b=n
      ·rw [hb]
       exact O.trans _ _ _ e2 (l a (n - 1) (by omega) (by omega) (by omega) (by omega))
      ·exact l a b (by omega) (by omega) (by omega) (by omega)
    refine (vm h0 f _ (n + 1) (q + 1) h (by omega) (by omega) (by omega) (d.succ O hn e2) l2).mono fun r hr=>?_
    obtain ⟨a1,a2,a3,a4,a5,a6⟩:=hr
    exact ⟨a1,a2,a3,by omega,a5,a6⟩
theorem Dd (h0:0 < N) {p:Array Nat} (h:KP N p) (n:Nat) (hn:1≤n) (hN:n≤N) (d:Dn lt p n):dR N lt (kas_tail3 n N p) fun r=>KP N r.2∧Up lt r.2 r.1∧1≤r.1∧r.1≤N:=by
 have sz:=h.size
 refine dR.bind ((Gq O (h.rev 0 n) h0 (N - n) n hn (d.turn O (by omega))).mono fun m hm=>?_)
 exact ⟨h.rev 0 n,hm.1,by omega,by omega⟩
theorem uK (h0:0 < N) {p:Array Nat} (h:KP N p) (n:Nat) (hn:1≤n) (hN:n + 1≤N) (d:Dn lt p (n + 1)):dR N lt (kas_descPart n N p) fun r=>KP N r.2∧Up lt r.2 r.1∧1≤r.1∧r.1≤N:=by
 have l0:Lk lt p (n + 1 - (0 + 1)) (n + 1):=fun a b h1 h2 h3 h4=>by
  have e1:a=n:=by omega
  have e2:b=n:=by omega
  rw [e1,e2]
  exact O.WT _
 refine dR.bind ((vm O h0 (N - (n + 1)) p (n + 1) 0 h (by omega) (by omega) (by omega) d l0).mono fun r hr=>?_)
 obtain ⟨a1,a2,a3,a4,a5,a6⟩:=hr
 have sz:=a1.size
 split
 ·exact Dd O h0 (a1.rev _ _) _ a2 (by omega) (a5.like O a6 (by omega) (Nat.le_refl _))
 ·exact Dd O h0 a1 _ a2 (by omega) a5
theorem Nf (h0:0 < N) {p:Array Nat} (h:KP N p):dR N lt (kas_count N p) fun r=>KP N r.2∧Up lt r.2 r.1∧1≤r.1∧r.1≤N:=by
 have sz:=h.size
 refine dR.bind ((Gq O h h0 (N - 1) 1 (Nat.le_refl _) (fun i j hij hj=>absurd hj (by omega))).mono fun n hn=>?_)
 obtain ⟨u,h1,h2,h3⟩:=hn
 split
 ·rename_i e
  have:=eq_of_beq e
  exact ⟨h,u,h1,by show n≤N; omega⟩
 ·rename_i e
  have en:n≠N:=fun x=>e (by rw [x]; simp)
  have hl:lt (at0 p n) (at0 p (n - 1))=true:=by
   rcases h3 with h3 | h3
   ·omega
   ·exact h3
  have hl':=O.Gp _ _ hl
  split
  ·refine ⟨h.ix h0 _,h.ix h0 _,?_⟩
   dsimp only
   split
   ·exact ⟨h,u,h1,by show n≤N; omega⟩
   ·rename_i e'
    have e1:lt (at0 p 0) (at0 p (n - 1))=false:=by simpa using e'
    have like:Lk lt p 0 n:=fun a b _ ha _ hb=>by
     have g1:lt (at0 p a) (at0 p 0)=false:=by
      by_cases hz:a=0
      ·rw [hz]; exact O.WT _
      ·exact u 0 a (by omega) ha
     have g2:lt (at0 p (n - 1)) (at0 p b)=false:=by
      by_cases hz:b=n - 1
      ·rw [hz]; exact O.WT _
      ·exact u b (n - 1) (by omega) (by omega)
     have g3:lt (at0 p 0) (at0 p b)=false:=O.trans (at0 p b) (at0 p (n - 1)) (at0 p 0) g2 e1
     have g4:lt (at0 p a) (at0 p (n - 1))=false:=by
      by_cases hz:a=n - 1
      ·rw [hz]; exact O.WT _
      ·cases q:lt (at0 p a) (at0 p (n - 1)) with
       | false=>rfl
       | true=>
        exfalso
        have k1:lt (at0 p 0) (at0 p (n - 1))=false:=e1
        have k2:lt (at0 p a) (at0 p 0)=false:=g1
        have:=O.trans (at0 p (n - 1)) (at0 p 0) (at0 p a) k1 k2
        rw [this] at q
        cases q
     exact O.trans (at0 p b) (at0 p (n - 1)) (at0 p a) g2 g4
    have dn:Dn lt p n:=fun i j hij hj=>like i j (Nat.zero_le _) (by omega) (Nat.zero_le _) hj
    have dr:=dn.like O like (by omega) (Nat.le_refl _)
    refine uK O h0 (h.rev 0 n) n h1 (by omega) (dr.succ O h1 ?_)
    rw [o9 (by omega),o9 (by omega),if_pos ⟨by omega,by omega⟩,if_neg (by omega)]
    exact O.trans _ _ _ hl' (like _ _ (by omega) (by omega) (by omega) (by omega))
  ·have e1:n=1:=by omega
   subst e1
   refine uK O h0 h 1 (Nat.le_refl _) (by omega) fun i j hij hj=>?_
   have ei:i=0:=by omega
   have ej:j=1:=by omega
   rw [ei,ej]
   exact hl'
theorem wu (h0:0 < N) {p:Array Nat} (h:KP N p) (k:Nat) (u:Up lt p k):∀f l r,l≤r→r≤k→r - l≤f→(∀i,i < l→lt (at0 p k) (at0 p i)=false)→(∀i,r≤i→i < k→lt (at0 p i) (at0 p k)=false)→
  dR N lt (kas_place p k f l r) fun m=>m≤k∧(∀i,i < m→lt (at0 p k) (at0 p i)=false)∧∀i,m≤i→i < k→lt (at0 p i) (at0 p k)=false
 | 0,l,r,hlr,hr,hf,g1,g2=>by
  have e:l=r:=by omega
  subst e
  exact ⟨hr,g1,g2⟩
 | f + 1,l,r,hlr,hr,hf,g1,g2=>by
  unfold kas_place
  split
  ·have e:l=r:=by omega
   subst e
   exact ⟨hr,g1,g2⟩
  ·refine ⟨h.ix h0 _,h.ix h0 _,?_⟩
   dsimp only
   split
   ·rename_i e
    have e':=O.Gp _ _ e
    refine wu h0 h k u f l ((l + r) / 2) (by omega) (by omega) (by omega) g1 fun i hi hk=>?_
    by_cases hz:i=(l + r) / 2
    ·rw [hz]; exact e'
    ·exact O.trans _ _ _ e' (u _ i (by omega) hk)
   ·rename_i e
    have e':lt (at0 p k) (at0 p ((l + r) / 2))=false:=by simpa using e
    refine wu h0 h k u f ((l + r) / 2 + 1) r (by omega) hr (by omega) (fun i hi=>?_) g2
    by_cases hz:i=(l + r) / 2
    ·rw [hz]; exact e'
    ·exact O.trans _ _ _ (u i _ (by omega) (by omega)) e'
theorem Ng (h0:0 < N):∀f (p:Array Nat) k,KP N p→k + f≤N→Up lt p k→dR N lt (kas_bin f p k) fun r=>KP N r∧Up lt r (k + f)
 | 0,p,k,h,hk,u=>⟨h,u⟩
 | f + 1,p,k,h,hk,u=>by
  have sz:=h.size
  refine dR.bind ((wu O h0 h k u k 0 k (Nat.zero_le _) (Nat.le_refl _) (by omega) (fun i hi=>absurd hi (Nat.not_lt_zero _)) (fun i h1 h2=>absurd h2 (by omega))).mono fun l hl=>?_)
  obtain ⟨hlk,g1,g2⟩:=hl
  have ub:Up lt (bubble p k (k - l)) (k + 1):=fun i j hij hj=>by
   rw [Nb (by omega) hlk,Nb (by omega) hlk]
   by_cases hi:i=l
   ·rw [if_neg (by omega),if_pos ⟨by omega,by omega⟩,if_pos hi]
    exact g2 _ (by omega) (by omega)
   ·by_cases hj':j=l
    ·rw [if_pos hj',if_neg hi,if_neg (by omega)]
     exact g1 _ (by omega)
    ·by_cases hli:l < i
     ·rw [if_neg hj',if_pos ⟨by omega,by omega⟩,if_neg hi,if_pos ⟨hli,by omega⟩]
      exact u _ _ (by omega) (by omega)
     ·by_cases hlj:l < j
      ·rw [if_neg hj',if_pos ⟨hlj,by omega⟩,if_neg hi,if_neg (by omega)]
       exact u _ _ (by omega) (by omega)
      ·rw [if_neg hj',if_neg (by omega),if_neg hi,if_neg (by omega)]
       exact u _ _ (by omega) (by omega)
  refine (Ng h0 f _ (k + 1) (h.bub _ _) (by omega) ub).mono fun r hr=>?_
  have e:k + (f + 1)=k + 1 + f:=by omega
  rw [e]
  exact hr
theorem Rb (h0:0 < N):dR N lt (kas_sort N) fun p=>KP N p∧Up lt p N:=by
 refine dR.bind ((Nf O h0 (p:=List.toArray (List.range N)) (List.Perm.refl _)).mono fun r hr=>?_)
 obtain ⟨a1,a2,a3,a4⟩:=hr
 split
 ·have e:max r.1 1=r.1:=by omega
  rw [e]
  refine (Ng O h0 (N - r.1) r.2 r.1 a1 (by omega) a2).mono fun p hp=>?_
  have e2:r.1 + (N - r.1)=N:=by omega
  rw [e2] at hp
  exact hp
 ·have e:r.1=N:=by omega
  rw [e] at a2
  exact ⟨a1,a2⟩
end
end L2
set_option maxHeartbeats 4000000
namespace L2
open PySem PySem.Spec PyProof.Rows PySem.W
theorem Ao {a b:Key} (h:kLt a b=true):kLt b a=false:=by
 cases a with
 | inl i=>
  cases b with
  | inr y=>cases h
  | inl j=>have:=of_decide_eq_true h; exact decide_eq_false (by omega)
 | inr x=>
  cases b with
  | inl y=>cases h
  | inr y=>exact KeyOrd.klt_asymm (O:=strKind.toKeyOrd) (a:=x.cps.toList) (b:=y.cps.toList) h
theorem Nh (a:Key):kLt a a=false:=by
 cases e:kLt a a with
 | false=>rfl
 | true=>rw [Ao e] at e; cases e
theorem Ni {a b c:Key} (t1:gA a=gA b) (t2:gA b=gA c) (h:kLt a c=true):kLt a b=true∨kLt b c=true:=by
 cases a with
 | inl i=>
  cases b with
  | inr y=>cases t1
  | inl j=>
   cases c with
   | inr y=>cases t2
   | inl k=>
    have h1:=of_decide_eq_true h
    by_cases h2:i < j
    ·exact .inl (decide_eq_true h2)
    ·exact .inr (decide_eq_true (by omega))
 | inr x=>
  cases b with
  | inl y=>cases t1
  | inr y=>
   cases c with
   | inl k=>cases t2
   | inr z=>exact strKind.negTrans x.cps.toList y.cps.toList z.cps.toList h
theorem str_of_list {x y:Str} (h:x.cps.toList=y.cps.toList):x=y:=by
 cases x
 cases y
 simp at h
 simp [h]
theorem Gr {a b:Key} (t:gA a=gA b) (h1:kLt a b=false) (h2:kLt b a=false):a=b:=by
 cases a with
 | inl i=>
  cases b with
  | inr y=>cases t
  | inl j=>
   have g1:=of_decide_eq_false h1
   have g2:=of_decide_eq_false h2
   have:i=j:=by omega
   rw [this]
 | inr x=>
  cases b with
  | inl y=>cases t
  | inr y=>
   have:=strKind.total x.cps.toList y.cps.toList h1 h2
   rw [str_of_list this]
theorem Aq:∀{a b:List Key},cL a b=true→cL b a=false
 | [],_,h=>by unfold cL at h; cases h
 | _::_,[],h=>by unfold cL at h; cases h
 | a::r,b::t,h=>by
  unfold cL at h ⊢
  by_cases e:a=b
  ·rw [if_pos e] at h
   rw [if_pos e.symm]
   exact Aq h
  ·rw [if_neg e] at h
   rw [if_neg (Ne.symm e)]
   exact Ao h
theorem Gs:∀{a b c:List Key},a.map gA=b.map gA→b.map gA=c.map gA→cL a c=true→cL a b=true∨cL b c=true
 | [],_,_,_,_,h=>by unfold cL at h; cases h
 | _::_,_,[],_,_,h=>by unfold cL at h; cases h
 | _::_,[],_::_,t,_,_=>by cases t
 | a::r,b::u,c::t,t1,t2,h=>by
  have q1:=(List.cons.inj t1).1
  have q2:=(List.cons.inj t2).1
  have q3:=(List.cons.inj t1).2
  have q4:=(List.cons.inj t2).2
  by_cases e:a=c
  ·subst e
   have h':cL r t=true:=by
    unfold cL at h
    rwa [if_pos rfl] at h
   by_cases e2:a=b
   ·subst e2
    rcases Gs q3 q4 h' with g | g
    ·left; unfold cL; rw [if_pos rfl]; exact g
    ·right; unfold cL; rw [if_pos rfl]; exact g
   ·cases g:kLt a b with
    | true=>left; unfold cL; rw [if_neg e2]; exact g
    | false=>
     right
     unfold cL
     rw [if_neg (Ne.symm e2)]
     cases g2:kLt b a with
     | true=>rfl
     | false=>exact absurd (Gr q1 g g2) e2
  ·have h':kLt a c=true:=by
    unfold cL at h
    rwa [if_neg e] at h
   rcases Ni q1 q2 h' with g | g
   ·left
    unfold cL
    rw [if_neg (fun z=>by rw [z,Nh] at g; cases g)]
    exact g
   ·right
    unfold cL
    rw [if_neg (fun z=>by rw [z,Nh] at g; cases g)]
    exact g
theorem Nj:∀{a b:List Key},a.map gA=b.map gA→cL a b=false→cL b a=false→a=b
 | [],[],_,_,_=>rfl
 | [],_::_,t,_,_=>by cases t
 | _::_,[],t,_,_=>by cases t
 | a::r,b::u,t,h1,h2=>by
  have q1:=(List.cons.inj t).1
  have q2:=(List.cons.inj t).2
  by_cases e:a=b
  ·subst e
   unfold cL at h1 h2
   rw [if_pos rfl] at h1 h2
   rw [Nj q2 h1 h2]
  ·unfold cL at h1 h2
   rw [if_neg e] at h1
   rw [if_neg (Ne.symm e)] at h2
   exact absurd (Gr q1 h1 h2) e
def iJ (rows:List Row) (i:Nat):List Key:=(rows.getD i (rows.headD (0,[]))).2
def wz (rows:List Row) (i j:Nat):Bool:=cL (iJ rows i) (iJ rows j)
theorem De {rows:List Row} {sh:List Bool} (h:∀r∈rows,r.2.map gA=sh) (h0:0 < rows.length) (i:Nat):(iJ rows i).map gA=sh:=by
 unfold iJ
 by_cases hi:i < rows.length
 ·have:rows.getD i (rows.headD (0,[]))=rows[i]:=by simp [List.getD,hi]
  rw [this]
  exact h _ (List.getElem_mem hi)
 ·have:rows.getD i (rows.headD (0,[]))=rows.headD (0,[]):=by simp [List.getD,Nat.le_of_not_lt hi]
  rw [this]
  cases rows with
  | nil=>simp at h0
  | cons r t=>exact h r List.mem_cons_self
theorem Nk {rows:List Row} {sh:List Bool} (h:∀r∈rows,r.2.map gA=sh) (h0:0 < rows.length):Ord (wz rows) where
 Gp:=fun a b=>Aq
 trans:=fun a b c h1 h2=>by
  unfold wz at h1 h2 ⊢
  cases e:cL (iJ rows c) (iJ rows a) with
  | false=>rfl
  | true=>
   have t:∀i j,(iJ rows i).map gA=(iJ rows j).map gA:=fun i j=>(De h h0 i).trans (De h h0 j).symm
   rcases Gs (t c b) (t b a) e with g | g
   ·rw [h2] at g; cases g
   ·rw [h1] at g; cases g
theorem zf {rows:List Row} {sh:List Bool} {n:Nat} (h:∀r∈rows,r.2.map gA=sh) (hn:n=rows.length) (h0:0 < n):dR n (wz rows) (kas_sort n) fun p=>KP n p∧(p.toList.map fun i=>iJ rows i).Pairwise (fun a b=>cL b a=false):=by
 subst hn
 refine (Rb (Nk h h0) h0).mono fun p hp=>⟨hp.1,?_⟩
 rw [List.pairwise_map,List.pairwise_iff_getElem]
 intro i j hi hj hij
 have sz:=hp.1.size
 have hj':j < p.size:=by simpa using hj
 have hi':i < p.size:=by simpa using hi
 have:=hp.2 i j hij (by omega)
 unfold at0 at this
 have e1:p.getD j 0=p.toList[j]:=by simp [Array.getD,hj']
 have e2:p.getD i 0=p.toList[i]:=by simp [Array.getD,hi']
 rw [e1,e2] at this
 exact this
theorem wA {rows:List Row} {n:Nat} (h:n < 2):((List.range n).map fun i=>iJ rows i).Pairwise (fun a b=>cL b a=false):=by
 match n,h with
 | 0,_=>exact .nil
 | 1,_=>exact List.pairwise_singleton _ _
theorem Ik {rows:List Row} {p:List Nat} (h:p.Perm (List.range rows.length)) (hr:(p.map fun i=>iJ rows i).Pairwise (fun a b=>cL b a=false)):((p.map fun i=>rows.getD i (0,[])).map (·.2)).Pairwise (fun a b=>cL b a=false):=by
 have e:((p.map fun i=>rows.getD i (0,[])).map (·.2))=p.map fun i=>iJ rows i:=by
  rw [List.map_map]
  refine List.map_congr_left fun i hi=>?_
  have hlt:=List.mem_range.mp (h.mem_iff.mp hi)
  simp [iJ,List.getD,hlt]
 rw [e]
 exact hr
section
variable {X:Cx}
theorem Df {prog:Program} {w:World} {A:Around} {s':Shared} {rows:List Row} {sh:List Bool} (ha:∀r∈rows,TupAt s'.heap r∧r.2.map gA=sh) {i j:Nat} (hi:i < rows.length) (hj:j < rows.length) (C:Bool→Shared→Prop) (q:C (wz rows i j) s'):
  kas_ask prog w A (tuples' true) (rows.map fun r=>Value.ref r.1) i j C s':=by
 refine Ra ha hi hj C ?_
 have e1:iJ rows i=rowAt rows i:=by simp [iJ,rowAt,List.getD,hi]
 have e2:iJ rows j=rowAt rows j:=by simp [iJ,rowAt,List.getD,hj]
 unfold wz at q
 rw [e1,e2] at q
 exact q
theorem rQ:dF X (.builtin "sorted") (fun xs H Q=>∃(p:Addr) (rows:List Row) (b:Bool) (sh:List Bool),xs=[.ref p]∧dW X.K H p (rows.map fun r=>V.ref r.1)∧rows.length < 64∧(∀r∈rows,H r.1=some (.tup (r.2.map kV))∧r.2.map gA=b::sh)∧
  ∀(l:Addr) (rows':List Row),H l=none→rows'.Perm rows→(rows'.map (·.2)).Pairwise (fun a b=>cL b a=false)→Q (.ref l) (upd H l (.lst (rows'.map fun r=>V.ref r.1)))):=by
 intro pins s σ H xs us Q I r h
 obtain ⟨p,rows,b,sh,rfl,hp,h64,ha,q⟩:=h
 obtain ⟨u,rfl,ru⟩:=vals1 r
 cases ru
 obtain ⟨its,rv,pl,_⟩:=I.list hp
 have e0:=Ij rv
 subst e0
 have tu:∀r∈rows,TupAt s.heap r∧r.2.map gA=b::sh:=fun r hr=>by
  obtain ⟨_,its,v,t⟩:=(show cF X.prog X.w H s.heap r.1 (.tup (r.2.map kV)) from I.hok r.1 _ (ha r hr).1)
  exact ⟨⟨its,v,t⟩,(ha r hr).2⟩
 refine uJ (κ:=tuples' true) (lt:=wz rows) (vs:=rows.map fun r=>Value.ref r.1) (Rl:=fun p=>(p.map fun i=>iJ rows i).Pairwise (fun a b=>cL b a=false)) (by simpa using h64) (fun h2=>zf (sh:=b::sh) (fun r hr=>(tu r hr).2) (by rw [List.length_map]) (by omega)) (fun h2=>wA (by rw [List.length_map] at h2 ⊢; omega)) (fun R hR=>?_) (fun h2 s' k Q' q'=>zb (fun r hr=>⟨(tu r hr).1.keep k,(tu r hr).2⟩) (by rw [List.length_map] at h2; omega) Q' q')
  (fun h2 s' k i j hi hj C q'=>Df (sh:=b::sh) (fun r hr=>⟨(tu r hr).1.keep k,(tu r hr).2⟩) (by simpa using hi) (by simpa using hj) C q') fun p D h' c tk hp' hrl hD k e=>?_
 ·refine collect_list pl.isList (hR _ _ s.toks ?_ (fun b o e=>?_) rfl)
  ·rw [Heap.size_update,size_push']
   omega
  ·have hlt:b≠s.heap.objs.size:=Nat.ne_of_lt (Heap.lt_size e)
   rw [Heap.get?_update_ne _ _ _ _ hlt]
   exact Heap.get?_push_of_some _ e
 ·rw [List.length_map] at hp'
  rw [zc hp'] at e
  refine ⟨.ref D,_,I.laid (o:=.lst ((p.map fun i=>rows.getD i (0,[])).map fun r=>V.ref r.1)) k hD ⟨?_,_,c,tZ _,by simpa [seqObj] using e⟩,rfl,q D _ (I.hok.fresh hD) (tY hp') (Ik hp' hrl)⟩
  rw [List.length_map,List.length_map,hp'.length_eq,List.length_range,sizeLine_eq]
  omega
theorem oN (hc:X.calm=true):dF X (.builtin "sorted") (fun xs H Q=>∃(d:Addr) (kvs:List (List Key×V)) (b:Bool) (sh:List Bool),xs=[.ref d]∧H d=some (.dT kvs)∧kvs.length < 64∧(∀kv∈kvs,kv.1.map gA=b::sh)∧
  ∀(l:Addr) (rows:List Row),H l=none→(rows.map (·.2)).Perm (kvs.map (·.1))→(rows.map (·.2)).Pairwise (fun a b=>cL b a=false)→(∀r∈rows,H r.1=some (.tup (r.2.map kV)))→Q (.ref l) (upd H l (.lst (rows.map fun r=>V.ref r.1)))):=by
 intro pins s σ H xs us Q I r h
 obtain ⟨d,kvs,b,sh,rfl,hd,h64,ha,q⟩:=h
 obtain ⟨u,rfl,ru⟩:=vals1 r
 cases ru
 obtain ⟨z,lo,ys,rel,o,es,ep,g1,g2,g3,g4,g5,g6⟩:=TJ I.hok hd
 have raw:CV s.heap d es ep:=⟨o,g1,g2,g3⟩
 obtain ⟨rows,r1,r2,r3⟩:∃rows:List Row,rows.map (·.2)=kvs.map (·.1)∧(∀r∈rows,H r.1=some (.tup (r.2.map kV)))∧es.toList.map (·.key)=rows.map fun r=>Value.ref r.1:=by
  clear g5 g6 h64 ha q z hd
  rw [g4]
  clear g4 raw g3
  induction rel with
  | nil=>exact ⟨[],rfl,by simp,rfl⟩
  | @cons p q ps qs h t ih=>
   obtain ⟨rows,a1,a2,a3⟩:=ih
   refine ⟨(q.2.1,p.1)::rows,by simp [a1],fun r hr=>?_,?_⟩
   ·rcases List.mem_cons.mp hr with rfl | hr
    ·exact h.2.1
    ·exact a2 r hr
   ·rw [List.map_cons,List.map_cons,a3]
    rfl
 have hlen:rows.length=kvs.length:=by
  have:=congrArg List.length r1
  simpa using this
 have hes:es.size=rows.length:=by
  have:=congrArg List.length r3
  simpa using this
 have tu:∀r∈rows,TupAt s.heap r∧r.2.map gA=b::sh:=fun r hr=>by
  obtain ⟨_,its,v,t⟩:=(show cF X.prog X.w H s.heap r.1 (.tup (r.2.map kV)) from I.hok r.1 _ (r2 r hr))
  have:r.2∈kvs.map (·.1):=by rw [←r1]; exact List.mem_map.mpr ⟨r,hr,rfl⟩
  obtain ⟨kv,hk,e⟩:=List.mem_map.mp this
  exact ⟨⟨its,v,t⟩,by rw [←e]; exact ha kv hk⟩
 refine uJ (κ:=tuples' true) (lt:=wz rows) (vs:=rows.map fun r=>Value.ref r.1) (Rl:=fun p=>(p.map fun i=>iJ rows i).Pairwise (fun a b=>cL b a=false)) (by rw [List.length_map]; omega) (fun h2=>zf (sh:=b::sh) (fun r hr=>(tu r hr).2) (by rw [List.length_map]) (by omega)) (fun h2=>wA (by rw [List.length_map] at h2 ⊢; omega)) (fun R hR=>?_) (fun h2 s' k Q' q'=>zb (fun r hr=>⟨(tu r hr).1.keep k,(tu r hr).2⟩) (by rw [List.length_map] at h2; omega) Q' q')
  (fun h2 s' k i j hi hj C q'=>Df (sh:=b::sh) (fun r hr=>⟨(tu r hr).1.keep k,(tu r hr).2⟩) (by simpa using hi) (by simpa using hj) C q') fun p D h' c tk hp' hrl hD k e=>?_
 ·refine CW (Q9 (es:=es) (ep:=ep) lo) (I.ok.hd hc) raw (by rw [sizeLine_eq]; omega) fun h' tk acc hsz kk hacc=>hR _ h' tk hsz kk ?_
  refine List.ext_getElem? fun i=>?_
  by_cases hi:i < es.size
  ·have e1:acc.size=es.size:=hacc.1
   have:=hacc.2 i (acc[i]'(by omega)) (by simp [e1,hi])
   rw [Array.getElem?_toList,Array.getElem?_eq_getElem (by omega)]
   rw [←this,←r3,List.getElem?_map,Array.getElem?_toList]
  ·have e1:acc.size=es.size:=hacc.1
   rw [List.getElem?_eq_none (by simp; omega),List.getElem?_eq_none (by simp; omega)]
 ·rw [List.length_map] at hp'
  rw [zc hp'] at e
  refine ⟨.ref D,_,I.laid (o:=.lst ((p.map fun i=>rows.getD i (0,[])).map fun r=>V.ref r.1)) k hD ⟨?_,_,c,tZ _,by simpa [seqObj] using e⟩,rfl,q D _ (I.hok.fresh hD) (((tY hp').map _).trans (by rw [r1])) (Ik hp' hrl) fun r hr=>r2 r ((tY hp').mem_iff.mp hr)⟩
  rw [List.length_map,List.length_map,hp'.length_eq,List.length_range,sizeLine_eq]
  omega
end
end L2
set_option maxHeartbeats 4000000
namespace L2
open PySem PySem.Spec PyProof.Rows PySem.W
abbrev uZ:=List (Option PyData)
def mQ (H:Hp) (Γ:uZ) (σ:St):Prop:=σ.length=Γ.length∧∀(i:Nat) (d:PyData),Γ[i]?=some (some d)→∃v,σ[i]?=some (some v)∧RX H d v
theorem mQ.same {H H':Hp} {Γ:uZ} {σ:St} (h:mQ H Γ σ) (s:bz H H'):mQ H' Γ σ:=⟨h.1,fun i d e=>let ⟨v,a,b⟩:=h.2 i d e; ⟨v,a,b.same s⟩⟩
theorem mQ.set {H:Hp} {Γ:uZ} {σ:St} (h:mQ H Γ σ) {i:Nat} {d:PyData} {v:V} (hv:RX H d v):mQ H (Γ.set i (some d)) (σ.set i (some v)):=by
 refine ⟨by rw [List.length_set,List.length_set]; exact h.1,fun j e he=>?_⟩
 by_cases hj:i=j
 ·subst hj
  rw [List.getElem?_set] at he
  simp only [if_true] at he
  split at he
  ·rename_i hl
   cases he
   refine ⟨v,?_,hv⟩
   rw [List.getElem?_set]
   simp only [if_true]
   rw [if_pos (by rw [h.1]; exact hl)]
  ·cases he
 ·rw [List.getElem?_set_ne hj] at he
  rw [List.getElem?_set_ne hj]
  exact h.2 j e he
def er (Z:List Addr) (H:Hp):Hp:=fun b=>if b∈Z then none else H b
theorem cj {Z:List Addr} {H:Hp} {b:Addr} {o:HO} (h:er Z H b=some o):H b=some o:=by
 unfold er at h
 split at h
 ·cases h
 ·exact h
theorem wB (Z:List Addr) (H:Hp):bz (er Z H) H:=fun b o h=>cj h
theorem vo {Z:List Addr} {H H':Hp} (s:bz H H'):bz (er Z H) (er Z H'):=fun b o h=>by
 unfold er at h ⊢
 split at h
 ·cases h
 ·rename_i n
  rw [if_neg n]
  exact s _ _ h
theorem wC (H:Hp):er [] H=H:=by
 funext b
 simp [er]
def Ar (t:TE) (Γ:uZ) (d:PyData):Prop:=∀Z σ H (Q:VK),(∀b,b∈Z→H b≠none)→mQ (er Z H) Γ σ→(∀v H',bz H H'→RX (er Z H') d v→Q v H')→t σ H Q
def Il (t:TA) (Γ:uZ) (ds:List PyData):Prop:=∀Z σ H (Q:List V→Hp→Prop),(∀b,b∈Z→H b≠none)→mQ (er Z H) Γ σ→(∀vs H',bz H H'→Dc (er Z H') ds vs→Q vs H')→t σ H Q
section
variable {Γ:uZ} {K:PySem.W.Frag}
def TY (t:TS) (Γ:uZ) (d:PyData):Prop:=∀(D:Ends) σ H,mQ H Γ σ→(∀v H',bz H H'→RX H' d v→D.rt v H')→t D σ H
theorem Ar.run {t:TE} {d:PyData} (h:Ar t Γ d) {σ:St} {H:Hp} {Q:VK} (e:mQ H Γ σ) (q:∀v H',bz H H'→RX H' d v→Q v H'):t σ H Q:=
 h [] σ H Q (fun _ m=>by cases m) (by rw [wC]; exact e) fun v H' s r=>q v H' s (by rw [wC] at r; exact r)
end
end L2
set_option maxHeartbeats 4000000
namespace HT
open PySem PySem.Spec PyProof.Rows
section
variable {prog:Program} {w:World} {A:Around} {E:Value→Shared→Prop} {s:Shared}
theorem ql {t sl:Addr} {items:Array Value} {vl vu:Value} {lo hi:Option Int} {Q:Value→Shared→Prop} (ht:IsTup s.heap t items) (hs:s.heap.IsSliceOf sl vl vu .none) (pl:IsPart vl lo) (pu:IsPart vu hi)
  (hw:gG items.size 0 lo=0∧gG items.size items.size hi=items.size) (h:Q (.ref t) s):wpAny (model prog w) A (getItem (.ref t) (.ref sl)) Q E s:=by
 obtain ⟨os,hos,hcs,hds⟩:=id hs
 have hTs:s.TypeIs (.ref sl) "slice":=⟨os,hos,hcs⟩
 unfold getItem
 try with_reducible refine wpAny_holding ?_
 first | refine wpAny_bind (wpAny_pure ?_) | skip
 refine wpAny_bind (wpAny_sequenceKey ht.typeIs (by decide) ?_)
 refine wpAny_bind (wpAny_callSpecial?_slot (name:=Str.ofString "__getitem__") ht.typeIs PyProof.Rows.slot_tuple_getitem
  (wpAny_call_entry PyProof.Rows.slot_tuple_getitem ht.typeIs entry_tuple_getitem ?_ (args_tuple_getitem _ _)))
 show wpAny _ _ (Builtin.Tuple.tupleItemsOf (.ref t) >>= _) _ _ s
 refine wpAny_bind (tupleItemsOf_ ht ?_)
 refine wpAny_bind (wpAny_typeOf hTs ?_)
 rw [if_pos (by decide)]
 refine wpAny_bind (mK hs pl pu ?_)
 have hyes:((((gG items.size 0 lo:Nat):Int)==0&&(1:Int)==1&&(gG items.size items.size hi - gG items.size 0 lo)==items.size)=true):=by
  rw [hw.1,hw.2]
  simp
 show wpAny _ _ (if (((gG items.size 0 lo:Nat):Int)==0&&(1:Int)==1&&(gG items.size items.size hi - gG items.size 0 lo)==items.size)=true then _ else _) _ _ s
 rw [if_pos hyes]
 unfold Builtin.Tuple.tupleIsExact
 refine wpAny_bind (wpAny_bind (wpAny_typeOf ht.typeIs (wpAny_pure ?_)))
 rw [if_pos (by decide)]
 refine wpAny_bind (wpAny_rule ?_)
 exact wpAny_pure ⟨_,rfl,wpAny_pure h⟩
end
end HT
namespace L2
open PySem PySem.Spec PyProof.Rows PySem.W
section
variable {X:Cx}
def aad (K:PySem.W.Frag):V→Option Int→Option Int→Hp→VK→Prop:=fun x lo hi H Q=>∃a xs,x=.ref a∧jz K H a xs∧(vW xs lo hi=xs→Q (.ref a) H)∧∀p,H p=none→Q (.ref p) (upd H p (.tup (vW xs lo hi)))
theorem Rc:QT X (aad X.K):=by
 intro pins s σ H x v vl vu lo hi sl Q I rx hs pl pu h
 obtain ⟨a,xs,rfl,hx,q1,q2⟩:=h
 by_cases hw:HT.gG xs.length 0 lo=0∧HT.gG xs.length xs.length hi=xs.length
 ·cases rx
  obtain ⟨its,r,ht,hz⟩:=I.tuple hx
  have hlen:its.toArray.size=xs.length:=by rw [List.size_toArray]; exact r.length.symm
  refine ⟨"tuple",_,PyProof.Rows.slot_tuple_getitem.lookup,ht.typeIs,?_⟩
  refine HT.ql ht hs pl pu (by rw [hlen]; exact hw) ?_
  refine ⟨.ref a,H,I,rfl,q1 ?_⟩
  unfold vW
  rw [hw.1,hw.2]
  simp
 ·exact Vm pins s σ H _ v vl vu lo hi sl Q I rx hs pl pu ⟨a,xs,rfl,hx,hw,q2⟩
end
end L2
set_option maxHeartbeats 4000000
namespace HT
open PySem PySem.Spec PyProof.Rows
open Sem (wp)
open Builtin
end HT
namespace L2
open PySem PySem.Spec PyProof.Rows PySem.W
section
variable {X:Cx}
end
end L2
set_option maxHeartbeats 4000000
namespace L2
open PySem PySem.Spec PyProof.Rows PySem.W
section
variable {Γ:uZ} {K:PySem.W.Frag}
end
end L2
set_option maxHeartbeats 4000000
namespace L2
open PySem PySem.Spec PyProof.Rows PySem.W
section
variable {Γ:uZ} {K:PySem.W.Frag}
end
end L2
namespace L2
open PySem PySem.Spec PyProof.Rows PySem.W
section
variable {Γ:uZ} {K:PySem.W.Frag}
theorem TY.use {t:TS} {d:PyData} (h:TY t Γ d) {D:Ends} {σ:St} {H:Hp} (e:mQ H Γ σ) (q:∀v H',bz H H'→RX H' d v→D.rt v H'):t D σ H:=h D σ H e q
end
end L2
set_option maxHeartbeats 4000000
namespace L2
open PySem PySem.Spec PyProof.Rows PySem.W
section
variable {X:Cx}
theorem Gu (hu:X.A.units + 64 < cLine):jQ X (compareOp .NotEq) (fun x y H Q=>∃d e,RX H d x∧RX H e y∧PySem.SeqAt.shaped d=true∧PySem.SeqAt.shaped e=true∧Q (.bl (!PyData.eqv d e)) H):=by
 intro pins s σ H x y v u Q I rx ry h
 obtain ⟨d,e,hd,he,h1,h2,q⟩:=h
 obtain ⟨as,ra⟩:=RD.reads I (hd.rd (K:=X.K)) rx
 obtain ⟨bs,rb⟩:=RD.reads I (he.rd (K:=X.K)) ry
 exact ne_dataH ra rb h1 h2 hu ⟨.bl _,H,I,rfl,q⟩
end
section
variable {Γ:uZ} {K:PySem.W.Frag}
def VH (t:TE) (Γ:uZ) (d:PyData):Prop:=∀σ H (Q:VK),mQ H Γ σ→(∀v H',bz H H'→RX H' d v→Q v H')→t σ H Q
theorem Ar.r {t:TE} {d:PyData} (h:Ar t Γ d):VH t Γ d:=fun σ H Q e q=>h.run e q
theorem Il.run {t:TA} {ds:List PyData} (h:Il t Γ ds) {σ:St} {H:Hp} {Q:List V→Hp→Prop} (e:mQ H Γ σ) (q:∀vs H',bz H H'→Dc H' ds vs→Q vs H'):t σ H Q:=
 h [] σ H Q (fun _ m=>by cases m) (by rw [wC]; exact e) fun v H' s r=>q v H' s (by rw [wC] at r; exact r)
end
end L2
set_option maxHeartbeats 4000000
namespace L2
open PySem PySem.Spec PyProof.Rows PySem.W
theorem vp {xs:Array Nat} (h:xs.toList.Pairwise (· < ·)) {i k d:Nat} (hik:i < k) (hk:k < xs.size):xs.getD i d < xs.getD k d:=by
 have h1:=List.pairwise_iff_getElem.mp h i k (by simpa using Nat.lt_trans hik hk) (by simpa using hk) hik
 have hi:i < xs.size:=Nat.lt_trans hik hk
 rw [Array.getD_eq_getD_getElem?,Array.getD_eq_getD_getElem?,Array.getElem?_eq_getElem hk,Array.getElem?_eq_getElem hi]
 simpa using h1
theorem wD {xs:Array Nat} {j:Nat} (h:xs.toList.Pairwise (· < ·)):∀f lo hi,lo≤hi→hi≤xs.size→hi - lo≤f→(∀i,i < lo→xs.getD i j < j)→(∀i,hi≤i→i < xs.size→j≤xs.getD i j)→
  SetTable.below.go xs j f lo hi≤xs.size∧(∀i,i < SetTable.below.go xs j f lo hi→xs.getD i j < j)∧∀i,SetTable.below.go xs j f lo hi≤i→i < xs.size→j≤xs.getD i j
 | 0,lo,hi,h1,h2,h3,h4,h5=>by
  unfold SetTable.below.go
  exact ⟨by omega,h4,fun i a b=>h5 i (by omega) b⟩
 | f + 1,lo,hi,h1,h2,h3,h4,h5=>by
  unfold SetTable.below.go
  by_cases hlt:lo < hi
  ·rw [if_pos hlt]
   dsimp only
   by_cases hm:xs.getD ((lo + hi) / 2) j < j
   ·rw [if_pos hm]
    refine wD h f _ _ (by omega) h2 (by omega) (fun i hi'=>?_) h5
    by_cases e:i=(lo + hi) / 2
    ·rw [e]; exact hm
    ·exact Nat.lt_trans (vp h (by omega) (by omega)) hm
   ·rw [if_neg hm]
    refine wD h f _ _ (by omega) (by omega) (by omega) h4 (fun i hi' hs=>?_)
    by_cases e:i=(lo + hi) / 2
    ·rw [e]; omega
    ·have:=vp (d:=j) h (show (lo + hi) / 2 < i by omega) hs
     omega
  ·rw [if_neg hlt]
   exact ⟨by omega,h4,fun i a b=>h5 i (by omega) b⟩
theorem uc {xs:Array Nat} (j:Nat) (h:xs.toList.Pairwise (· < ·)):SetTable.below xs j≤xs.size∧(∀i,i < SetTable.below xs j→xs.getD i j < j)∧∀i,SetTable.below xs j≤i→i < xs.size→j≤xs.getD i j:=
 wD h xs.size 0 xs.size (Nat.zero_le _) (Nat.le_refl _) (by omega) (fun i hi=>by omega) (fun i a b=>by omega)
theorem Im {xs:Array Nat} (h:xs.toList.Pairwise (· < ·)):SetTable.below xs 0=0:=by
 obtain ⟨_,b,_⟩:=uc 0 h
 cases e:SetTable.below xs 0 with
 | zero=>rfl
 | succ n=>have:=b 0 (by omega); omega
theorem wF {xs:Array Nat} (h:xs.toList.Pairwise (· < ·)) {i:Nat} (hi:i < xs.size):SetTable.below xs (xs[i] + 1)=i + 1:=by
 obtain ⟨a,b,c⟩:=uc (xs[i] + 1) h
 have e:∀k d,(hk:k < xs.size)→xs.getD k d=xs[k]:=fun k d hk=>by rw [Array.getD_eq_getD_getElem?,Array.getElem?_eq_getElem hk]; rfl
 have mono:∀p q,(hp:p < xs.size)→(hq:q < xs.size)→p < q→xs[p] < xs[q]:=fun p q hp hq pq=>by
  have:=vp (d:=0) h pq hq
  rwa [e p 0 hp,e q 0 hq] at this
 by_cases h1:SetTable.below xs (xs[i] + 1)≤i
 ·have:=c i h1 hi
  rw [e i _ hi] at this
  omega
 ·by_cases h2:SetTable.below xs (xs[i] + 1)=i + 1
  ·exact h2
  ·have hs:i + 1 < xs.size:=by omega
   have:=b (i + 1) (by omega)
   rw [e _ _ hs] at this
   have:=mono i (i + 1) hi hs (by omega)
   omega
structure jR (b:Bool) (t:SetTable):Prop where
 led:t.led=b
 dum:t.dummies=#[]
 ris:t.place.toList.Pairwise (· < ·)
theorem jR.standIn {b:Bool} {t:SetTable} (h:jR b t) (n:Nat):jR b (t.standIn n):=⟨h.led,rfl,by simpa [SetTable.standIn] using List.pairwise_lt_range⟩
theorem jR.orStandIn {b:Bool} {t:SetTable} (h:jR b t) (n:Nat):jR b (t.orStandIn n):=by
 unfold SetTable.orStandIn
 split
 ·exact h
 ·exact h.standIn n
theorem has_none (j:Nat):SetTable.has #[] j=false:=rfl
theorem wG {t:SetTable} (hd:t.dummies=#[]) (f:Nat→Int) (h:Int):∀fuel (p:SetTable.Probe) j d,p.dummy=none→SetTable.probe.go t f h fuel p=some (.empty j d)→d=none∧t.slot j=.empty
 | 0,p,j,d,_,e=>by simp [SetTable.probe.go] at e
 | fuel + 1,p,j,d,hp,e=>by
  unfold SetTable.probe.go at e
  have adv:(t.advance p).dummy=none:=by
   unfold SetTable.advance
   split <;> exact hp
  cases hs:t.slot p.j with
  | empty=>
   rw [hs] at e
   simp only [Option.some.injEq,SetTable.Met.empty.injEq] at e
   exact ⟨by rw [←e.2]; exact hp,by rw [←e.1]; exact hs⟩
  | dummy=>
   unfold SetTable.slot at hs
   rw [hd] at hs
   simp only [has_none] at hs
   split at hs
   ·cases hs
   ·simp at hs
  | live i=>
   rw [hs] at e
   simp only at e
   split at e
   ·cases e
   ·exact wG hd f h fuel _ j d adv e
theorem Gv {xs:Array Nat} {j:Nat} (h:xs.toList.Pairwise (· < ·)) (hn:xs[SetTable.below xs j]?≠some j):(SetTable.insertAt xs (SetTable.below xs j) j).toList.Pairwise (· < ·):=by
 obtain ⟨a,b,c⟩:=uc j h
 rw [SetTable.toList_insertAt]
 have h':=h
 rw [←List.take_append_drop (SetTable.below xs j) xs.toList,List.pairwise_append] at h'
 obtain ⟨h1,h2,h3⟩:=h'
 have e:∀k d,(hk:k < xs.size)→xs.getD k d=xs.toList[k]'(by simpa using hk):=fun k d hk=>by rw [Array.getD_eq_getD_getElem?,Array.getElem?_eq_getElem hk]; simp
 have lo:∀x,x∈xs.toList.take (SetTable.below xs j)→x < j:=fun x hx=>by
  obtain ⟨i,hi,rfl⟩:=List.getElem_of_mem hx
  have hi':i < SetTable.below xs j:=by simp at hi; omega
  have:=b i hi'
  rw [e i j (by omega)] at this
  rw [List.getElem_take]
  exact this
 have hi:∀x,x∈xs.toList.drop (SetTable.below xs j)→j < x:=fun x hx=>by
  obtain ⟨i,hi,rfl⟩:=List.getElem_of_mem hx
  have hs:SetTable.below xs j + i < xs.size:=by simp at hi; omega
  have h0:=c (SetTable.below xs j) (Nat.le_refl _) (by omega)
  have ne:xs.getD (SetTable.below xs j) j≠j:=fun z=>hn (by
   have hb:SetTable.below xs j < xs.size:=by omega
   rw [Array.getD_eq_getD_getElem?,Array.getElem?_eq_getElem hb] at z
   rw [Array.getElem?_eq_getElem hb]
   simpa using z)
  rw [List.getElem_drop,←e _ j hs]
  by_cases z:i=0
  ·subst z
   simp only [Nat.add_zero]
   omega
  ·have:=vp (d:=j) h (show SetTable.below xs j < SetTable.below xs j + i by omega) hs
   omega
 rw [List.pairwise_append]
 refine ⟨h1,List.pairwise_cons.mpr ⟨hi,h2⟩,fun x hx y hy=>?_⟩
 rcases List.mem_cons.mp hy with rfl | hy
 ·exact lo x hx
 ·exact h3 x hx y hy
theorem jR.layNew {b:Bool} {t:SetTable} (h:jR b t) (es:Array (Int×Value)) (hs:Int) (x:Value):jR b (layNew t es hs x).2.1:=by
 unfold PySem.layNew
 cases hf:t.freeSlot hs with
 | none=>exact h.standIn _
 | some q=>
  obtain ⟨slot,wd⟩:=q
  have free:t.slot slot=.empty:=by
   unfold SetTable.freeSlot at hf
   split at hf
   ·rename_i j d hp
    obtain ⟨rfl,hj⟩:=wG h.dum _ _ _ _ _ _ rfl hp
    simp only [Option.some.injEq,Prod.mk.injEq] at hf
    rw [←hf.1]
    exact hj
   ·cases hf
  have hn:t.place[SetTable.below t.place slot]?≠some slot:=fun z=>by
   unfold SetTable.slot at free
   simp [z] at free
  show jR b ((t.put slot).1.orStandIn _)
  refine jR.orStandIn (t:=(t.put slot).1) ⟨h.led,?_,Gv h.ris hn⟩ _
  show (if SetTable.has t.dummies slot then _ else t.dummies)=#[]
  rw [h.dum]
  rfl
theorem jR.relayAll {b:Bool} {t:SetTable} (h:jR b t) (es:Array (Int×Value)) (n:Nat):jR b (relayAll t es n).2.1:=by
 unfold PySem.relayAll
 split
 ·rename_i t' order hr
  dsimp only
  split
  ·unfold SetTable.relaid SetTable.laid at hr
   cases ho:SetTable.layClean (SetTable.sizeAbove n - 1) (es.map (·.1)) with
   | none=>simp [ho] at hr
   | some owner=>
    simp only [ho,Option.bind_eq_bind,Option.bind_some,Option.pure_def,Option.some.injEq,Prod.mk.injEq] at hr
    rw [←hr.1]
    refine ⟨h.led,rfl,?_⟩
    simp only [List.map_filterMap]
    refine List.Pairwise.filterMap _ (fun x y hxy=>?_) List.pairwise_lt_range
    intro u hu v hv
    simp only [Option.map_eq_some_iff] at hu hv
    obtain ⟨p,⟨_,_,rfl⟩,rfl⟩:=hu
    obtain ⟨q,⟨_,_,rfl⟩,rfl⟩:=hv
    exact hxy
  ·exact h.standIn _
 ·exact h.standIn _
theorem jR.plain {b:Bool} {t:SetTable} (h:jR b t) (v:Bool):jR b { t with plain:=v }:=⟨h.led,h.dum,h.ris⟩
theorem jR.fresh (b:Bool):jR b (.fresh 0 0 b):=⟨rfl,rfl,.nil⟩
end L2
set_option maxHeartbeats 4000000
namespace L2
open PySem PySem.Spec PySem.W
section
variable {prog:Program} {w:World} {T:Type} [DecidableEq T] (knd:PySem.KeyKind prog w T)
def bt (w:World):Bool:=!(w.params.followText "set-order")
inductive yG:List (Int×Value)→List T→Prop
 | nil:yG [] []
 | cons {e:Int×Value} {k:T} {es:List (Int×Value)} {ks:List T}:(knd.is k e.2=true∧e.1=knd.hash k∧e.2.scannable=true)→yG es ks→yG (e::es) (k::ks)
def oU (h:Heap) (a:Addr) (ks:List T):Prop:=∃o es ep t,h.get? a=some o∧o.ExactSet∧o.data=.set es ep t∧(∃ks',yG knd es.toList ks'∧ks'.Perm ks)∧es.size < scanBound∧t.fits es.size=true∧jR (bt w) t
def wH (ks:List T) (k:T):List T:=if k∈ks then ks else ks++[k]
variable {knd}
theorem yG.elems {es:List (Int×Value)} {ks:List T} (h:yG knd es ks):ElemsOf knd es:=by
 induction h with
 | nil=>intro e he; cases he
 | cons a _ ih=>
  intro e he
  rcases List.mem_cons.mp he with rfl | he
  ·exact ⟨⟨_,a.1,a.2.1⟩,a.2.2⟩
  ·exact ih e he
theorem yG.len {es:List (Int×Value)} {ks:List T} (h:yG knd es ks):es.length=ks.length:=by
 induction h with
 | nil=>rfl
 | cons _ _ ih=>simp [ih]
theorem yG.perm {es es':List (Int×Value)} (p:es'.Perm es):∀{ks:List T},yG knd es ks→∃ks',yG knd es' ks'∧ks'.Perm ks:=by
 induction p with
 | nil=>intro ks h; exact ⟨ks,h,.refl _⟩
 | cons x _ ih=>
  intro ks h
  cases h with
  | cons a r=>
   obtain ⟨ks',h1,h2⟩:=ih r
   exact ⟨_::ks',.cons a h1,h2.cons _⟩
 | swap x y l=>
  intro ks h
  cases h with
  | cons a r=>
   cases r with
   | cons b r=>exact ⟨_::_::_,.cons b (.cons a r),.swap ..⟩
 | trans _ _ ih1 ih2=>
  intro ks h
  obtain ⟨k2,h1,p1⟩:=ih2 h
  obtain ⟨k3,h2,p2⟩:=ih1 h1
  exact ⟨k3,h2,p2.trans p1⟩
theorem yG.push {es:List (Int×Value)} {ks:List T} (h:yG knd es ks) {k:T} {x:Value} (hk:knd.is k x=true) (hx:x.scannable=true):yG knd (es++[(knd.hash k,x)]) (ks++[k]):=by
 induction h with
 | nil=>exact .cons ⟨hk,rfl,hx⟩ .nil
 | cons a _ ih=>exact .cons a ih
theorem yG.mem {es:List (Int×Value)} {ks:List T} (h:yG knd es ks) {k:T} {x:Int×Value} (hm:x∈es) (hp:knd.is k x.2=true):k∈ks:=by
 induction h with
 | nil=>cases hm
 | cons a _ ih=>
  rcases List.mem_cons.mp hm with rfl | hm
  ·cases knd.inj _ _ _ hp a.1
   exact List.mem_cons_self ..
  ·exact List.mem_cons_of_mem _ (ih hm)
theorem yG.none {es:List (Int×Value)} {ks:List T} (h:yG knd es ks) {k:T} (e:es.findIdx? (fun e=>knd.is k e.2)=.none):k∉ks:=by
 have e':=List.findIdx?_eq_none_iff.mp e
 clear e
 induction h with
 | nil=>intro h; cases h
 | cons a _ ih=>
  intro hm
  rcases List.mem_cons.mp hm with rfl | hm
  ·have:=e' _ (List.mem_cons_self ..)
   rw [a.1] at this
   cases this
  ·exact ih (fun x hx=>e' x (List.mem_cons_of_mem _ hx)) hm
variable {A:Around} {E:Value→Shared→Prop} {s:Shared}
theorem Io {h:Heap} {a:Addr} {o:Obj} {es es':Array (Int×Value)} {ep:Nat} {t t':SetTable} {ks:List T} (ho:h.get? a=some o) (ex:o.ExactSet) (hd:o.data=.set es ep t) (e:∃ks',yG knd es'.toList ks'∧ks'.Perm ks)
  (hb:es'.size < scanBound) (hf:t'.fits es'.size=true) (tb:jR (bt w) t'):
  ∃o',(h.update a (Obj.putSet es' t')).get? a=some o'∧o'.ExactSet∧o'.data=.set es' (ep + 1) t'∧oU knd (h.update a (Obj.putSet es' t')) a ks:=by
 have g:=Heap.get?_update_self (Obj.putSet es' t') ho (by rw [putSet_of es' t' hd]; rfl)
 rw [putSet_of es' t' hd] at g
 exact ⟨_,g,ex,rfl,_,es',ep + 1,t',g,ex,rfl,e,hb,hf,tb⟩
theorem Rf {a:Addr} {k:T} {x:Value} {ks:List T} {Q:Bool→Shared→Prop} (hk:knd.is k x=true) (hx:x.scannable=true) (hS:oU knd s.heap a ks) (room:ks.length + 1 < scanBound)
  (h:∀b h',Heap.SameBut a s.heap h'→oU knd h' a (wH ks k)→Q b { s with heap:=h' }):wpAny (model prog w) A (setAddHashed a x (knd.hash k)) Q E s:=by
 obtain ⟨o,es,ep,t,ho,ex,hd,⟨k0,ek,pk⟩,hb,hf,tb⟩:=hS
 have sz:es.size=ks.length:=by rw [←Array.length_toList,ek.len,pk.length_eq]
 have el:=ek.elems
 have mono:∀{u:Unit→Shared→Prop} {s1:Shared} (g:Bool),u () s1→∀r:Sem Unit,(r=rule "set.scan.the-table-gave-way"∨r=pure ())→wpAny (model prog w) A r u E s1:=fun g hu r hr=>by
  rcases hr with rfl | rfl
  ·exact wpAny_rule hu
  ·exact wpAny_pure hu
 unfold setAddHashed setAddHashedIn
 refine wpAny_holding (wpAny_bind (wpAny_setState_of ho hd hf ?_))
 simp only [byScan_of hx hb el,if_true]
 unfold setAddByScan
 refine wpAny_bind (wpAny_bind (wpAny_rule (wpAny_bind (wpAny_setScan_of hk ho hd hf el ?_))))
 cases hr:es.toList.findIdx? (fun e=>knd.is k e.2) with
 | some j=>
  obtain ⟨hj,hp,_⟩:=List.findIdx?_eq_some_iff_getElem.mp hr
  have hm:k∈ks:=pk.mem_iff.mp (ek.mem (List.getElem_mem hj) hp)
  refine wpAny_pure (wpAny_pure (h _ s.heap (Heap.SameBut.refl a s.heap) ?_))
  rw [wH,if_pos hm]
  exact ⟨o,es,ep,t,ho,ex,hd,⟨k0,ek,pk⟩,hb,hf,tb⟩
 | none=>
  have hm:k∉ks:=fun z=>ek.none hr (pk.mem_iff.mpr z)
  have pn:=layNew_perm t es (knd.hash k) x
  have fn:=layNew_fits t es (knd.hash k) x
  have tn:=tb.layNew es (knd.hash k) x
  dsimp only
  generalize layNew t es (knd.hash k) x=L at pn fn tn ⊢
  obtain ⟨es1,t1,wd,gv⟩:=L
  dsimp only at pn fn tn ⊢
  rw [Array.toList_push] at pn
  obtain ⟨k1,e1,p1⟩:=(ek.push hk hx).perm pn
  have ak:wH ks k=ks++[k]:=by rw [wH,if_neg hm]
  have q1:∃ks',yG knd es1.toList ks'∧ks'.Perm (wH ks k):=⟨k1,e1,by rw [ak]; exact p1.trans (pk.append_right _)⟩
  have T3:es1.size=es.size + 1:=by rw [←Array.length_toList,pn.length_eq,List.length_append,Array.length_toList]; rfl
  have b1:es1.size < scanBound:=by omega
  refine wpAny_bind (mono gv ?_ _ (by cases gv <;> first | exact .inl rfl | exact .inr rfl))
  have tail:∀t2:SetTable,t2.fits es1.size=true→jR (bt w) t2→wpAny (model prog w) A (do
    storeSet a es1 t2
    if (!wd&&t2.tooFull)=true then do
      (match (PySem.relayAll t2 es1 (SetTable.grown es1.size)).2.2 with | true=>rule "set.scan.the-table-gave-way" | false=>pure ())
      storeSet a (PySem.relayAll t2 es1 (SetTable.grown es1.size)).1 (PySem.relayAll t2 es1 (SetTable.grown es1.size)).2.1
      pure (some true)
     else pure (some true)) (fun r s'=>wpAny (model prog w) A (match r with | some added=>pure added | none=>setAddHashedIn a x (knd.hash k) 99999) Q E s') E s:=fun t2 f2 tb2=>by
   obtain ⟨o1,g1,ex1,d1,S1⟩:=Io (knd:=knd) ho ex hd q1 b1 f2 tb2
   refine wpAny_bind (wpAny_storeSet_of ho hd ?_ (fits_of_scanBound b1))
   have wI:=Heap.SameBut.update s.heap a (Obj.putSet es1 t2)
   split
   ·have pr:=relayAll_perm t2 es1 (SetTable.grown es1.size)
    have fr:=relayAll_fits t2 es1 (SetTable.grown es1.size)
    have tr:=tb2.relayAll es1 (SetTable.grown es1.size)
    generalize PySem.relayAll t2 es1 (SetTable.grown es1.size)=L2 at pr fr tr ⊢
    obtain ⟨es2,t3,gv2⟩:=L2
    dsimp only at pr fr tr ⊢
    obtain ⟨k2,e2,p2⟩:=q1
    obtain ⟨k3,e3,p3⟩:=e2.perm pr
    have sz2:es2.size=es1.size:=by rw [←Array.length_toList,pr.length_eq,Array.length_toList]
    have b2:es2.size < scanBound:=by omega
    refine wpAny_bind (mono gv2 ?_ _ (by cases gv2 <;> first | exact .inl rfl | exact .inr rfl))
    refine wpAny_bind (wpAny_storeSet_of g1 d1 ?_ (fits_of_scanBound b2))
    obtain ⟨_,_,_,_,S2⟩:=Io (knd:=knd) g1 ex1 d1 ⟨k3,e3,p3.trans p2⟩ b2 fr tr
    exact wpAny_pure (wpAny_pure (h _ _ (wI.trans (Heap.SameBut.update ..)) S2))
   ·exact wpAny_pure (wpAny_pure (h _ _ wI S1))
  split
  ·refine wpAny_bind ?_
   rw [hashByValue_scannable 8 hx]
   refine wpAny_pure ?_
   by_cases hv:plainKind x=true
   ·simp only [hv,if_true]
    exact tail t1 fn tn
   ·simp only [hv,Bool.false_eq_true,if_false]
    exact tail _ (SetTable.fits_plain_off fn) (tn.plain false)
  ·refine wpAny_bind (wpAny_pure ?_)
   simp only [if_true]
   exact tail t1 fn tn
end
end L2
set_option maxHeartbeats 4000000
namespace L2
open PySem PySem.Spec PySem.W
section
variable {T:Type} [DecidableEq T]
def dedup (ks:List T):List T:=ks.foldl wH []
theorem Gw (ks:List T) (k:T):dedup (ks++[k])=wH (dedup ks) k:=by simp [dedup,List.foldl_append]
theorem Nm (ks:List T) (k:T):(wH ks k).length≤ks.length + 1:=by
 unfold wH
 split <;> simp
theorem pA:∀(ks as:List T),(ks.foldl wH as).length≤as.length + ks.length
 | [],_=>by simp
 | k::ks,as=>by
  have h1:=pA ks (wH as k)
  have h2:=Nm as k
  simp only [List.foldl_cons,List.length_cons]
  omega
theorem mR (ks:List T):(dedup ks).length≤ks.length:=by simpa [dedup] using pA ks []
end
section
variable {prog:Program} {w:World} {T:Type} [DecidableEq T] {knd:PySem.KeyKind prog w T} {A:Around} {E:Value→Shared→Prop} {s:Shared}
theorem oU.at {h h':Heap} {a:Addr} {ks:List T} (H:oU knd h a ks) (e:∀o,h.get? a=some o→h'.get? a=some o):oU knd h' a ks:=
 let ⟨o,es,ep,t,ho,r⟩:=H
 ⟨o,es,ep,t,e o ho,r⟩
theorem oU.lt {h:Heap} {a:Addr} {ks:List T} (H:oU knd h a ks):a < h.objs.size:=let ⟨_,_,_,_,ho,_⟩:=H; Heap.lt_size ho
theorem oU.ty {a:Addr} {ks:List T} (H:oU knd s.heap a ks):s.TypeIs (.ref a) "set":=let ⟨o,_,_,_,ho,ex,_⟩:=H; ⟨o,ho,ex.1⟩
theorem Np {R:Result→Shared→Prop} {I:Addr} {fp wr:List Addr} {G:Array GenState→Array GenState→Prop} {n:Nat} {Pv:Nat→Value→Prop} {St:Nat→Shared→Prop} (W:WalksS prog w A.in1 I fp wr G n Pv St) {S:Addr} (out:S∉fp) {val:Nat→T}
  (hv:∀i v,Pv i v→knd.is (val i) v=true∧v.scannable=true) (room:n + 1 < scanBound):∀(m i:Nat) (s:Shared),n - i=m→i≤n→St i s→oU knd s.heap S (dedup ((List.range i).map val))→
  (∀s',Moved (S::wr) G s s'→oU knd s'.heap S (dedup ((List.range n).map val))→R (.ok (.ret .none)) s')→codeAny (model prog w) A (.builtin "set.update.loop" ⟨[.ref S,.ref I],[]⟩) R s:=by
 have Gx:S∉wr:=fun z=>out (W.sub _ z)
 have T4:∀b,b∈wr→b∈S::wr:=fun b z=>List.mem_cons_of_mem _ z
 intro m
 induction m with
 | zero=>
  intro i s hm hi st hS hR
  obtain rfl:i=n:=by omega
  refine codeAny_builtin PyProof.Rows.F.entry_set_update_loop ?_; rw [Around.under_plainId PyProof.Rows.F.plain_set_update_loop _]
  show wpAny _ A.in1 (pyNext (.ref I) >>= _) _ _ s; refine wpAny_bind (W.done s _ _ st fun s' mv=>?_)
  show wpAny _ A.in1 (ret Value.none) _ _ s'; exact wpAny_pure (hR s' (mv.mono T4) (hS.at fun o e=>mv.heap S o Gx e))
 | succ m ih=>
  intro i s hm hi st hS hR
  have lt:i < n:=by omega
  refine codeAny_builtin PyProof.Rows.F.entry_set_update_loop ?_; rw [Around.under_plainId PyProof.Rows.F.plain_set_update_loop _]
  show wpAny _ A.in1 (pyNext (.ref I) >>= _) _ _ s; refine wpAny_bind (W.item i s _ _ lt st fun v s' pv st' mv=>?_)
  obtain ⟨isv,scv⟩:=hv i v pv
  have hS1:oU knd s'.heap S (dedup ((List.range i).map val)):=hS.at fun o e=>mv.heap S o Gx e
  show wpAny _ A.in1 (holding [v] (setAdd S v) >>= _) _ _ s'; refine wpAny_bind (wpAny_holding ?_); unfold setAdd; refine wpAny_holding (wpAny_bind (knd.pyHash isv ?_))
  have few:=mR ((List.range i).map val)
  rw [List.length_map,List.length_range] at few
  refine Rf (knd:=knd) (s:={ s' with toks:=s'.toks + 1 }) isv scv hS1 (by omega) fun _ h' same hS2=>?_
  have hS3:oU knd h' S (dedup ((List.range (i + 1)).map val)):=by rw [List.range_succ,List.map_append,List.map_singleton,Gw]; exact hS2
  refine wpAny_pure ⟨plainId_quiet PyProof.Rows.F.plain_set_update_loop _,ih (i + 1) _ (by omega) lt (W.frame _ s' _ _ st' (Nat.le_succ _) fun b hb o e=>(same.2 b fun z=>out (z ▸ hb)).trans e) hS3 fun s2 mv2 hS4=>?_⟩
  exact hR s2 (Moved.trans W.gtrans ((mv.mono T4).then_heap (Nat.le_succ _) fun b o hb e=>(same.2 b fun z=>hb (by rw [z]; exact List.mem_cons_self)).trans e) mv2) hS4
end
end L2
set_option maxHeartbeats 4000000
namespace L2
open PySem PySem.Spec PySem.W
section
variable {prog:Program} {w:World} {T:Type} [DecidableEq T] {knd:PySem.KeyKind prog w T} {A:Around} {E:Value→Shared→Prop} {s:Shared}
def yL (w:World):Obj:={ cls:=.type "set",dict:=none,data:=.set #[] 0 (.fresh 0 0 (bt w)) }
theorem VJ {h:Heap} {a:Addr} (g:h.get? a=some (yL w)):oU knd h a []:=⟨_,#[],0,_,g,⟨rfl,rfl,rfl⟩,rfl,⟨[],.nil,.refl _⟩,by decide,rfl,jR.fresh _⟩
theorem Nq (a:Value) {Q1:Value→Shared→Prop} (h:Q1 (.ref s.heap.objs.size) { s with heap:=s.heap.push (yL w) }):codeAny (model prog w) A (.call (.builtin "set.__new__") ⟨[.type "set",a],[]⟩) (wants Q1 E) s:=by
 refine codeAny_of_tree ?_
 show wpAny _ A.in1 (checkBuiltinCall "set.__new__" ⟨[.type "set",a],[]⟩ >>= fun _=>again (.builtin "set.__new__" ⟨[.type "set",a],[]⟩)) _ _ s
 refine wpAny_bind (wpAny_of_eq (F.newCall_set_1 a) (wpAny_pure ⟨plainId_quiet PySem.F.plain_set_new _,codeAny_builtin PySem.F.entry_set_new ?_⟩)); rw [Around.under_plainId PySem.F.plain_set_new _]
 unfold Builtin.«set.__new__» Builtin.Frozenset.newClass
 have sub:=PySem.sub_set_self
 obtain ⟨h0,g0,d0,t0,o0⟩:=s
 dsimp only
 wp_walk
 refine wpAny_askSetting (wpAny_pure ?_)
 dsimp only
 simp only [newObj]
 refine wpAny_bind (wpAny_alloc (wpAny_pure ?_))
 exact wpAny_pure h
theorem Kq {l:Addr} {items:Array Value} {val:Nat→T} {Q:Value→Shared→Prop} (hh:A.handled=none) (hl:s.heap.IsList l items) (hv:∀i v,items[i]?=some v→knd.is (val i) v=true∧v.scannable=true) (room:items.size + 1 < scanBound)
  (h:∀(h':Heap) (tk:Nat),oU knd h' s.heap.objs.size (dedup ((List.range items.size).map val))→(∀b o,s.heap.get? b=some o→h'.get? b=some o)→Q (.ref s.heap.objs.size) { s with heap:=h',toks:=tk }):
  wpAny (model prog w) A (call (.type "set") [.ref l]) Q E s:=by
 obtain ⟨c0,tl0,acF⟩:=PySem.F.called_set.mro
 have abI:=PySem.F.called_set.made
 have acG:=PySem.F.called_set.sub
 refine wpAny_call (codeAny_of_tree (show wpAny _ _ (callAny (.type "set") _) _ _ _ from ?_))
 refine wpAny_pure ⟨Code.quiet_builtin _ (by decide +kernel),codeAny_builtin F.entry_type_call ?_⟩; rw [Around.under_plain (weight_type_call_type "set" [.ref l] []) rfl]
 have n1:=PySem.F.called_set.notType
 have n2:=PySem.F.called_set.canCreate
 have n3:=PySem.F.typeCall_set_1 (.ref l)
 repeat (any_goals (first | assumption | wp_step))
 refine codeAny_mono (Nq (.ref l) (E:=E) (Q1:=fun obj s1=>obj=.ref s.heap.objs.size∧s1={ s with heap:=s.heap.push (yL w) }) ⟨rfl,rfl⟩) fun r s1 hr=>?_
 cases r with
 | error e=>exact hr
 | ok fl=>
  cases fl with
  | ret obj=>
   obtain ⟨rfl,rfl⟩:=hr
   have g0:(s.heap.push (yL w)).get? s.heap.objs.size=some (yL w):=Heap.get?_push_size _ rfl
   have ty0:Shared.TypeIs { s with heap:=s.heap.push (yL w) } (.ref s.heap.objs.size) "set":=⟨_,g0,rfl⟩
   have li:=PySem.F.called_set.init.lookup
   have bi:=PySem.F.called_set.init.bind (.ref s.heap.objs.size)
   repeat (any_goals (first | assumption | wp_step))
   refine codeAny_mono (codeAny_call_builtin (R:=wants (fun r s2=>r=.none∧∃h' tk,s2={ s with heap:=h',toks:=tk }∧oU knd h' s.heap.objs.size (dedup ((List.range items.size).map val))∧∀b o,s.heap.get? b=some o→h'.get? b=some o) E) PySem.F.called_set.init.plain PySem.F.entry_set_init (check_set_init_1 ty0 ?_)) fun r2 s2 hr2=>?_
   ·obtain ⟨ol,hol,hcl,nl,hdl⟩:=hl
    obtain ⟨ocls,odict,odata,oslots⟩:=ol
    simp only at hcl hdl
    subst hcl; subst hdl
    have hol1:(s.heap.push (yL w)).get? l=some { cls:=.type "list",dict:=odict,data:=.seq items nl,slots:=oslots }:=Heap.get?_push_of_some _ hol
    have u1:=PySem.F.sub_list_set
    have u2:=PySem.F.sub_list_frozenset
    have u3:(Value.type "list"==Value.type "dict")=false:=by decide
    have li1:(s.heap.push (yL w)).IsList l items:=⟨_,hol1,rfl,nl,rfl⟩
    unfold Builtin.«set.__init__» noKeywords Builtin.Frozenset.updateFrom
    generalize keep:pyIter=PI
    wp_walk
    subst keep
    refine wpAny_pyIter_list li1 (wpAny_bind (wpAny_runValue ?_))
    have lt0:l < s.heap.objs.size:=Heap.lt_size hol
    have hh3:A.in1.in1.in1.handled=none:=by simp [hh]
    have ne0:l≠(s.heap.push (yL w)).objs.size:=by rw [Heap.size_push]; exact Nat.ne_of_lt (Nat.lt_succ_of_lt lt0)
    have aag:s.heap.objs.size∉[(s.heap.push (yL w)).objs.size,l]:=by
     rw [Heap.size_push]
     simp only [List.mem_cons,List.not_mem_nil,or_false,not_or]
     exact ⟨Nat.ne_of_lt (Nat.lt_succ_self _),Nat.ne_of_gt lt0⟩
    refine Np (knd:=knd) (val:=val) ((Walks.list hh3 _ l ne0 items).toS) aag hv room (items.size - 0) 0 _ (by omega) (Nat.zero_le _) ⟨⟨_,Heap.get?_push_size _ rfl,rfl,rfl⟩,li1.push _⟩ (VJ (Heap.get?_push_of_some _ g0)) fun s3 mv hS=>?_
    obtain ⟨h3,g3,d3,t3,o3⟩:=s3
    obtain rfl:g3=s.gens:=mv.gens
    obtain rfl:d3=s.drawn:=mv.drawn
    obtain rfl:o3=s.os:=mv.os
    show wpAny _ _ _ _ _ _
    refine wpAny_pure (show wpAny _ _ (ret Value.none) _ _ _ from wpAny_pure ⟨rfl,h3,t3,rfl,hS,fun b o e=>?_⟩)
    have ltb:b < s.heap.objs.size:=Heap.lt_size e
    refine mv.heap b o ?_ (Heap.get?_push_of_some _ (Heap.get?_push_of_some _ e))
    rw [Heap.size_push]
    simp only [List.mem_cons,List.not_mem_nil,or_false,not_or]
    exact ⟨Nat.ne_of_lt ltb,Nat.ne_of_lt (Nat.lt_succ_of_lt ltb)⟩
   ·cases r2 with
    | error e=>exact hr2
    | ok f2=>
     cases f2 with
     | ret r=>
      obtain ⟨rfl,h',tk,rfl,hS,kk⟩:=hr2
      repeat (any_goals (first | assumption | wp_step))
      exact h _ _ hS kk
     | _=>exact hr2.elim
  | _=>exact hr.elim
end
end L2
set_option maxHeartbeats 4000000
namespace L2
open PySem PySem.Spec PySem.W
theorem Dg:Manifest.owners.lookup (String.ofList "rotareti_tes".toList.reverse)=some Manifest.sig_set_iterator:=by kernel_rfl
theorem iK:Slot "set_iterator" "__next__" "set_iterator.__next__":=.of (owner:="set_iterator") (n:="__next__") (by rw [typeLookup_type,builtinLookup_eq_fast]; kernel_rfl) (by decide +kernel) (by decide +kernel) (by decide +kernel) (by first | exact .inl (by decide +kernel) | exact .inr (by decide +kernel)) (by rw [isSubtype_type]; kernel_rfl)
theorem Ip:Slot "set_iterator" "__iter__" "set_iterator.__iter__":=.of (owner:="set_iterator") (n:="__iter__") (by rw [typeLookup_type,builtinLookup_eq_fast]; kernel_rfl) (by decide +kernel) (by decide +kernel) (by decide +kernel) (by first | exact .inl (by decide +kernel) | exact .inr (by decide +kernel)) (by rw [isSubtype_type]; kernel_rfl)
theorem pW:entryFor table "set_iterator.__next__"=some Builtin.«set_iterator.__next__»:=entryFor_of_tree (by kernel_rfl)
theorem Kr:entryFor table "set_iterator.__iter__"=some Builtin.«dict_keyiterator.__iter__»:=entryFor_alias (id':="dict_keyiterator.__iter__") (by kernel_rfl) rfl (by decide +kernel) (by kernel_rfl)
theorem Gy:entryFor table "set.__iter__"=some Builtin.«frozenset.__iter__»:=entryFor_alias (id':="frozenset.__iter__") (by kernel_rfl) rfl (by decide +kernel) (by kernel_rfl)
theorem pX (a:Value):argsOk "set_iterator.__next__" ⟨[a],[]⟩:=by
 unfold argsOk; rw [signature?_of (id:="set_iterator.__next__") (n:="__txen__".toList) (o:="rotareti_tes".toList) (by kernel_rfl) Dg]; kernel_rfl
theorem Ks (a:Value):argsOk "set_iterator.__iter__" ⟨[a],[]⟩:=by
 unfold argsOk; rw [signature?_of (id:="set_iterator.__iter__") (n:="__reti__".toList) (o:="rotareti_tes".toList) (by kernel_rfl) Dg]; kernel_rfl
end L2
set_option maxHeartbeats 4000000
namespace L2
open PySem PySem.Spec PySem.W
section
variable {prog:Program} {w:World} {A:Around} {E:Value→Shared→Prop} {s:Shared} {it S:Addr} {es:Array (Int×Value)} {ep i n:Nat} {t:SetTable} {first:Value}
def pC (b:Bool) (h:Heap) (a:Addr) (es:Array (Int×Value)) (ep:Nat) (t:SetTable):Prop:=∃o,h.get? a=some o∧o.ExactSet∧o.data=.set es ep t∧t.fits es.size=true∧jR b t
theorem pC.at {b:Bool} {h h':Heap} {a:Addr} (H:pC b h a es ep t) (e:∀o,h.get? a=some o→h'.get? a=some o):pC b h' a es ep t:=let ⟨o,ho,r⟩:=H; ⟨o,e o ho,r⟩
def zg (h:Heap) (it S:Addr) (first:Value) (i n ep:Nat):Prop:=∃o,h.get? it=some o∧o.cls=.type "set_iterator"∧o.data=.fields #[first,rawInt i,.ref S,rawInt n,rawInt ep]
theorem zg.at {h h':Heap} (H:zg h it S first i n ep) (e:∀o,h.get? it=some o→h'.get? it=some o):zg h' it S first i n ep:=let ⟨o,ho,r⟩:=H; ⟨o,e o ho,r⟩
theorem zg.ty (H:zg s.heap it S first i n ep):s.TypeIs (.ref it) "set_iterator":=let ⟨o,ho,c,_⟩:=H; ⟨o,ho,c⟩
theorem zg.set {h:Heap} {j:Nat} {x:Value} {vs:Array Value} {o:Obj} (ho:h.get? it=some o) (hc:o.cls=.type "set_iterator") (hd:o.data=.fields vs):
  ∃o',(h.update it (Obj.mapFields (·.setIfInBounds j x))).get? it=some o'∧o'.cls=.type "set_iterator"∧o'.data=.fields (vs.setIfInBounds j x):=
 ⟨_,Heap.get?_update_self _ ho (Obj.isFreed_of_fields (Obj.data_mapFields hd _)),(Obj.cls_mapFields ..).trans hc,by rw [Obj.data_mapFields hd]⟩
theorem Av {Q:Value→Shared→Prop} (hit:zg s.heap it S first i n ep) (h:Q (.ref it) s):wpAny (model prog w) A (pyIter (.ref it)) Q E s:=by
 refine wpAny_pyIter_slot hit.ty Ip (wpAny_call_entry Ip hit.ty Kr (show wpAny _ _ (ret (.ref it)) _ _ s from ?_) (Ks _))
 exact wpAny_pure ⟨_,rfl,"set_iterator",_,hit.ty,iK.lookup,h⟩
theorem Ir {Q:Option Value→Shared→Prop} {slot:Nat} {R:Option (Value×Nat)} (hit:zg s.heap it S (rawInt slot) i n ep) (hs:pC (bt w) s.heap S es ep t) (hn:n=es.size) (ne:S≠it)
  (nx:∀{B:Around} {E':Value→Shared→Prop} {C:Option (Value×Nat)→Shared→Prop},C R s→wpAny (model prog w) B (setNext S slot i ep) C E' s) {x:Value} {nxt:Nat} (hR:R=some (x,nxt))
  (h:∀h',zg h' it S (rawInt nxt) (i + 1) n ep→Heap.SameBut it s.heap h'→Q (some x) { s with heap:=h' }):wpAny (model prog w) A (pyNext (.ref it)) Q E s:=by
 obtain ⟨o,ho,hc,hd⟩:=id hit
 obtain ⟨os,hos,exs,hds,hf,tb⟩:=id hs
 unfold pyNext
 refine wpAny_bind (wpAny_attempt (wpAny_callSpecial?_slot (name:=Str.ofString "__next__") hit.ty iK (wpAny_call_entry iK hit.ty pW ?_ (pX _))))
 unfold Builtin.«set_iterator.__next__»
 refine wpAny_bind (wpAny_pure (wpAny_bind (wpAny_fieldsOf ho hd ?_)))
 dsimp only [rawInt]
 refine wpAny_bind (wpAny_setEntries_of hos hds hf ?_)
 subst hn; subst hR
 rw [if_neg (by simp)]
 refine wpAny_bind (nx ?_)
 dsimp only
 refine wpAny_bind (wpAny_setField ho hd (by simp) ?_)
 obtain ⟨o1,g1,c1,d1⟩:=zg.set (j:=0) (x:=.int nxt 0) ho hc hd
 refine wpAny_bind (wpAny_setField g1 d1 (by simp) ?_)
 obtain ⟨o2,g2,c2,d2⟩:=zg.set (j:=1) (x:=.int (i + 1) 0) g1 c1 d1
 refine wpAny_pure ⟨_,rfl,wpAny_pure (h _ ⟨o2,g2,c2,?_⟩ ((Heap.SameBut.update ..).trans (Heap.SameBut.update ..)))⟩
 rw [d2]
 simp [rawInt]
theorem Iu {Q:Option Value→Shared→Prop} {s':Shared} (hh:A.handled=none) (h:∀h',(∀b o,s'.heap.get? b=some o→h'.get? b=some o)→Q none { s' with heap:=h' }):
  wpAny (model prog w) A.in1 (do let e ←newExc (.type "StopIteration") []; (raiseNew e:Sem Fin)) (fun fin s1=>∃v,fin=Fin.done (Flow.ret v)∧wpAny (model prog w) A (pure (some v)) Q E s1)
   (fun e s1=>wpAny (model prog w) A (do if (←isInstance e (Value.type "StopIteration"))=true then pure none else throw e) Q E s1) s':=by
 refine wpAny_bind ?_
 simp only [newExc,newTuple]
 refine wpAny_bind (wpAny_newObj_type ?_ (by size_fits))
 refine wpAny_bind (m:=firstArgMember _ _) (wpAny_of_eq (a:=Value.none) (by first | rfl | (simp only [firstArgMember]; rfl)) ?_)
 refine wpAny_newObj_type ?_ (by size_fits); simp only [raiseNew]; refine wpAny_bind (wpAny_handled ?_)
 rw [show A.in1.handled=none from hh]; refine wpAny_bind (wpAny_pure (wpAny_throw ?_))
 refine wpAny_bind (wpAny_isInstance (T:="StopIteration") (b:=true) ⟨_,Heap.get?_push_size _ rfl,rfl⟩ isSubtype_stop ?_)
 exact wpAny_pure (h _ fun b o e=>Heap.get?_push_of_some _ (Heap.get?_push_of_some _ e))
theorem Nr {Q:Option Value→Shared→Prop} {slot:Nat} (hh:A.handled=none) (hit:zg s.heap it S (rawInt slot) i n ep) (hs:pC (bt w) s.heap S es ep t) (hn:n=es.size)
  (nx:∀{B:Around} {E':Value→Shared→Prop} {C:Option (Value×Nat)→Shared→Prop},C none s→wpAny (model prog w) B (setNext S slot i ep) C E' s)
  (h:∀h',(∀b o,b≠it→s.heap.get? b=some o→h'.get? b=some o)→Q none { s with heap:=h' }):wpAny (model prog w) A (pyNext (.ref it)) Q E s:=by
 obtain ⟨o,ho,hc,hd⟩:=id hit
 obtain ⟨os,hos,exs,hds,hf,tb⟩:=id hs
 unfold pyNext
 refine wpAny_bind (wpAny_attempt (wpAny_callSpecial?_slot (name:=Str.ofString "__next__") hit.ty iK (wpAny_call_entry iK hit.ty pW ?_ (pX _))))
 unfold Builtin.«set_iterator.__next__»
 refine wpAny_bind (wpAny_pure (wpAny_bind (wpAny_fieldsOf ho hd ?_)))
 dsimp only [rawInt]
 refine wpAny_bind (wpAny_setEntries_of hos hds hf ?_)
 subst hn
 rw [if_neg (by simp)]
 refine wpAny_bind (nx ?_)
 dsimp only
 refine wpAny_bind (wpAny_setField ho hd (by simp) ?_)
 exact Iu hh fun h' kk=>h h' fun b o hb e=>kk b o (((Heap.SameBut.update ..).2 b hb).trans e)
end
end L2
set_option maxHeartbeats 4000000
namespace L2
open PySem PySem.Spec PySem.W
section
variable {prog:Program} {w:World} {A:Around} {E:Value→Shared→Prop} {s:Shared} {it S:Addr} {es:Array (Int×Value)} {ep i n:Nat} {t:SetTable} {first:Value}
theorem vq {Q:Bool→Shared→Prop} (h:Q (!bt w) s):wpAny (model prog w) A setsByText Q E s:=by
 unfold setsByText
 refine wpAny_bind (wpAny_askSetting (wpAny_pure ?_))
 have h':Q (w.params.followText "set-order") s:=by simpa [bt] using h
 exact h'
theorem qI {α:Type}:∀{l:List α} {j:Nat} (h:j < l.length),(l[j]::l.eraseIdx j).Perm l
 | [],j,h=>by cases h
 | a::l,0,h=>.refl _
 | a::l,j + 1,h=>by
  have:=qI (l:=l) (j:=j) (by simpa using h)
  simp only [List.getElem_cons_succ,List.eraseIdx_cons_succ]
  exact (List.Perm.swap ..).trans (this.cons a)
theorem zj {C:Option (Value×Nat)→Shared→Prop} {slot:Nat} (hs:pC (bt w) s.heap S es ep t) (hb:bt w=true) (nd:(!t.plain&&decide (es.size > 1))=false)
  (h:C (match es[SetTable.below t.place slot]?,t.place[SetTable.below t.place slot]? with | some (_,x),some j=>some (x,j + 1) | _,_=>none) s):wpAny (model prog w) A (setNext S slot i ep) C E s:=by
 obtain ⟨o,ho,ex,hd,hf,tb⟩:=hs
 unfold setNext
 refine wpAny_bind (wpAny_setState_of ho hd hf ?_)
 refine wpAny_bind (vq ?_)
 rw [hb]
 simp only [Bool.not_true,Bool.false_eq_true,if_false]
 refine wpAny_ite_split (fun z=>?_) (fun _=>?_)
 ·have z':(!t.plain&&decide (es.size > 1))=true:=z
  rw [nd] at z'
  cases z'
 refine wpAny_bind (show wpAny _ _ (if (!t.led&&!es.isEmpty)=true then _ else _) _ _ _ from ?_)
 rw [tb.led,hb]
 simp only [Bool.not_true,Bool.false_and,Bool.false_eq_true,if_false]
 exact wpAny_pure (wpAny_pure h)
theorem zm {C:Option (Value×Nat)→Shared→Prop} {slot:Nat} (hs:pC (bt w) s.heap S es ep t) (hb:bt w=false)
  (h:C (((pickOrder (w.params.setOrder S ep) es)[i]?).map fun e=>(e.2,slot)) s):wpAny (model prog w) A (setNext S slot i ep) C E s:=by
 obtain ⟨o,ho,ex,hd,hf,tb⟩:=hs
 unfold setNext
 refine wpAny_bind (wpAny_setState_of ho hd hf ?_)
 refine wpAny_bind (vq ?_)
 rw [hb]
 simp only [Bool.not_false,if_true,bne_self_eq_false,Bool.false_eq_true,if_false]
 refine wpAny_bind ?_
 unfold setWalk
 refine wpAny_bind (wpAny_setState_of ho hd hf ?_)
 refine wpAny_bind (vq ?_)
 rw [hb]
 simp only [Bool.not_false,if_true]
 refine wpAny_bind (wpAny_askSetting (wpAny_pure ?_))
 exact wpAny_pure h
theorem Iv {α:Type} (f:Nat→Nat):∀(m k:Nat) (left:List α) (out:Array α),left.length=m→(pickOrder.go f m k left out).toList.Perm (out.toList++left)
 | 0,k,left,out,h=>by
  unfold pickOrder.go
  rw [List.length_eq_zero_iff.mp h]
  simp
 | m + 1,k,left,out,h=>by
  unfold pickOrder.go
  have hl:f k % left.length < left.length:=Nat.mod_lt _ (by omega)
  rw [List.getElem?_eq_getElem hl]
  dsimp only
  refine (Iv f m (k + 1) _ _ (by rw [List.length_eraseIdx]; simp [hl]; omega)).trans ?_
  rw [Array.toList_push,List.append_assoc]
  refine List.Perm.append_left _ ?_
  exact qI hl
theorem ud {α:Type} (f:Nat→Nat) (xs:Array α):(pickOrder f xs).toList.Perm xs.toList:=by
 have:=Iv f xs.size 0 xs.toList #[] (by simp)
 simpa [pickOrder] using this
theorem Nt {src:Source} {m:Nat} {Q:Nat→Shared→Prop} (hm:m≠0) (h:∀j d,j < m→Q j { s with drawn:=d }):wpAny (model prog w) A (choose src m) Q E s:=fun Γ p _=>⟨hm,h _ _ (Nat.mod_lt _ (Nat.pos_of_ne_zero hm))⟩
theorem Dh {α:Type}:∀(m:Nat) (xs:List α) (s:Shared) (Q:List α→Shared→Prop),xs.length=m→(∀ys d,ys.Perm xs→Q ys { s with drawn:=d })→wpAny (model prog w) A (drawOrder m xs) Q E s
 | 0,xs,s,Q,hl,h=>by
  unfold drawOrder
  rw [List.length_eq_zero_iff.mp hl] at h
  exact wpAny_pure (h [] s.drawn (.refl _))
 | m + 1,[],s,Q,hl,h=>by cases hl
 | m + 1,x::xs,s,Q,hl,h=>by
  unfold drawOrder
  refine wpAny_bind (Nt (by simp) fun j d hj=>?_)
  rw [List.getElem?_eq_getElem hj]
  dsimp only
  refine wpAny_bind (Dh m _ _ _ (by rw [List.length_eraseIdx,if_pos hj]; simpa using hl) fun ys d' hp=>?_)
  exact wpAny_pure (h _ d' ((hp.cons _).trans (qI hj)))
end
end L2
set_option maxHeartbeats 4000000
namespace L2
open PySem PySem.Spec PySem.W
section
variable {prog:Program} {w:World} {A:Around} {E:Value→Shared→Prop} {s:Shared} {it S pl:Addr} {es:Array (Int×Value)} {ep i n:Nat} {t:SetTable} {ps:List Nat}
def WW (h:Heap) (pl:Addr) (ps:List Nat):Prop:=∃o c,h.get? pl=some o∧o.data=.seq (ps.map fun k:Nat=>rawInt k).toArray c
theorem WW.at {h h':Heap} (H:WW h pl ps) (e:∀o,h.get? pl=some o→h'.get? pl=some o):WW h' pl ps:=let ⟨o,c,ho,r⟩:=H; ⟨o,c,e o ho,r⟩
theorem Rg {Q:Option Value→Shared→Prop} {k:Nat} {e:Int×Value} (hit:zg s.heap it S (.ref pl) i n ep) (hs:pC (bt w) s.heap S es ep t) (hp:WW s.heap pl ps) (hn:n=es.size) (hk:ps[i]?=some k) (he:es[k]?=some e)
  (h:∀h',zg h' it S (.ref pl) (i + 1) n ep→Heap.SameBut it s.heap h'→Q (some e.2) { s with heap:=h' }):wpAny (model prog w) A (pyNext (.ref it)) Q E s:=by
 obtain ⟨o,ho,hc,hd⟩:=id hit
 obtain ⟨os,hos,exs,hds,hf,tb⟩:=id hs
 obtain ⟨op,cp,hop,hdp⟩:=hp
 unfold pyNext
 refine wpAny_bind (wpAny_attempt (wpAny_callSpecial?_slot (name:=Str.ofString "__next__") hit.ty iK (wpAny_call_entry iK hit.ty pW ?_ (pX _))))
 unfold Builtin.«set_iterator.__next__»
 refine wpAny_bind (wpAny_pure (wpAny_bind (wpAny_fieldsOf ho hd ?_)))
 dsimp only [rawInt]
 refine wpAny_bind (wpAny_setEntries_of hos hds hf ?_)
 subst hn
 rw [if_neg (by simp)]
 refine wpAny_bind (wpAny_seqItems hop hdp ?_)
 dsimp only
 rw [show ((ps.map fun k:Nat=>rawInt k).toArray)[((i:Int)).toNat]?=some (.int (k:Int) 0) by simp [hk,rawInt]]
 dsimp only
 refine wpAny_bind ?_
 unfold setNextDrawn
 refine wpAny_bind (wpAny_setState_of hos hds hf ?_)
 simp only [Int.toNat_natCast,bne_self_eq_false,Bool.false_eq_true,if_false,he]
 refine wpAny_pure (wpAny_bind (wpAny_setField ho hd (by simp) ?_))
 obtain ⟨o1,g1,c1,d1⟩:=zg.set (j:=1) (x:=.int (i + 1) 0) ho hc hd
 refine wpAny_pure ⟨_,rfl,wpAny_pure (h _ ⟨o1,g1,c1,?_⟩ (Heap.SameBut.update ..))⟩
 rw [d1]
 simp [rawInt]
theorem VL {Q:Option Value→Shared→Prop} (hh:A.handled=none) (hit:zg s.heap it S (.ref pl) i n ep) (hs:pC (bt w) s.heap S es ep t) (hp:WW s.heap pl ps) (hn:n=es.size) (hk:ps.length≤i)
  (h:∀h',(∀b o,b≠it→s.heap.get? b=some o→h'.get? b=some o)→Q none { s with heap:=h' }):wpAny (model prog w) A (pyNext (.ref it)) Q E s:=by
 obtain ⟨o,ho,hc,hd⟩:=id hit
 obtain ⟨os,hos,exs,hds,hf,tb⟩:=id hs
 obtain ⟨op,cp,hop,hdp⟩:=hp
 unfold pyNext
 refine wpAny_bind (wpAny_attempt (wpAny_callSpecial?_slot (name:=Str.ofString "__next__") hit.ty iK (wpAny_call_entry iK hit.ty pW ?_ (pX _))))
 unfold Builtin.«set_iterator.__next__»
 refine wpAny_bind (wpAny_pure (wpAny_bind (wpAny_fieldsOf ho hd ?_)))
 dsimp only [rawInt]
 refine wpAny_bind (wpAny_setEntries_of hos hds hf ?_)
 subst hn
 rw [if_neg (by simp)]
 refine wpAny_bind (wpAny_seqItems hop hdp ?_)
 dsimp only
 rw [show ((ps.map fun k:Nat=>rawInt k).toArray)[((i:Int)).toNat]?=none by simp [hk]]
 dsimp only
 refine wpAny_bind (wpAny_setField ho hd (by simp) ?_)
 obtain ⟨o1,g1,c1,d1⟩:=zg.set (j:=0) (x:=.int 0 0) ho hc hd
 refine wpAny_bind (wpAny_setField g1 d1 (by simp) ?_)
 exact Iu hh fun h' kk=>h h' fun b o hb e=>kk b o ((((Heap.SameBut.update ..).trans (Heap.SameBut.update ..)).2 b hb).trans e)
theorem Ku (hh:A.handled=none) (ne:S≠it) (hb:bt w=true) (nd:(!t.plain&&decide (es.size > 1))=false) (hz:t.place.size=es.size) (rs:t.place.toList.Pairwise (· < ·)):
  Walks prog w A it [it,S] [it] es.size (fun i v=>(es.toList.map (·.2))[i]?=some v) (fun i h=>zg h it S (rawInt (if i=0 then 0 else t.place.getD (i - 1) 0 + 1:Nat)) i es.size ep∧pC (bt w) h S es ep t) where
 sub:=fun b hb=>by simp at hb; simp [hb]
 frame:=fun _ _ _ st hk=>⟨st.1.at fun o e=>hk it (by simp) o e,st.2.at fun o e=>hk S (by simp) o e⟩
 item:=fun i s Q E hi st hQ=>by
  have hp:i < t.place.size:=by omega
  have bl:SetTable.below t.place (if i=0 then 0 else t.place.getD (i - 1) 0 + 1)=i:=by
   by_cases z:i=0
   ·subst z
    exact Im rs
   ·rw [if_neg z]
    have h1:i - 1 < t.place.size:=by omega
    have:=wF rs h1
    rw [Array.getD_eq_getD_getElem?,Array.getElem?_eq_getElem h1,Option.getD_some,this]
    omega
  refine Ir (R:=some (es[i].2,t.place[i] + 1)) st.1 st.2 rfl ne (fun c=>zj st.2 hb nd ?_) rfl fun h' hit' same=>hQ _ h' s.toks (by simp [hi]) ⟨?_,st.2.at fun o e=>(same.2 S ne).trans e⟩ fun b o hb e=>(same.2 b fun z=>hb (by simp [z])).trans e
  ·rw [bl,Array.getElem?_eq_getElem hi,Array.getElem?_eq_getElem hp]
   exact c
  ·have e1:(if i + 1=0 then 0 else t.place.getD (i + 1 - 1) 0 + 1)=t.place[i] + 1:=by
    rw [if_neg (by omega),Nat.add_sub_cancel,Array.getD_eq_getD_getElem?,Array.getElem?_eq_getElem hp,Option.getD_some]
   rw [e1]
   exact hit'
 done:=fun s Q E st hQ=>by
  have bl:SetTable.below t.place (if es.size=0 then 0 else t.place.getD (es.size - 1) 0 + 1)=es.size:=by
   by_cases z:es.size=0
   ·rw [if_pos z,z]
    exact Im rs
   ·rw [if_neg z]
    have h1:es.size - 1 < t.place.size:=by omega
    have:=wF rs h1
    rw [Array.getD_eq_getD_getElem?,Array.getElem?_eq_getElem h1,Option.getD_some,this]
    omega
  refine Nr hh st.1 st.2 rfl (fun c=>zj st.2 hb nd ?_) fun h' kk=>hQ h' s.toks fun b o hb e=>kk b o (fun z=>hb (by simp [z])) e
  rw [bl,Array.getElem?_eq_none (Nat.le_refl _)]
  exact c
 self:=fun _ _ _ _ st hQ=>Av st.1 hQ
theorem Kv (hh:A.handled=none) (ne:S≠it) (hb:bt w=false):
  Walks prog w A it [it,S] [it] es.size (fun i v=>((pickOrder (w.params.setOrder S ep) es).toList.map (·.2))[i]?=some v) (fun i h=>zg h it S (rawInt (0:Nat)) i es.size ep∧pC (bt w) h S es ep t) where
 sub:=fun b hb=>by simp at hb; simp [hb]
 frame:=fun _ _ _ st hk=>⟨st.1.at fun o e=>hk it (by simp) o e,st.2.at fun o e=>hk S (by simp) o e⟩
 item:=fun i s Q E hi st hQ=>by
  have hl:(pickOrder (w.params.setOrder S ep) es).size=es.size:=by rw [←Array.length_toList,(ud _ es).length_eq,Array.length_toList]
  have hp:i < (pickOrder (w.params.setOrder S ep) es).size:=by omega
  refine Ir (R:=some ((pickOrder (w.params.setOrder S ep) es)[i].2,0)) st.1 st.2 rfl ne (fun c=>zm st.2 hb ?_) rfl fun h' hit' same=>hQ _ h' s.toks (by simp [hp]) ⟨hit',st.2.at fun o e=>(same.2 S ne).trans e⟩ fun b o hb e=>(same.2 b fun z=>hb (by simp [z])).trans e
  rw [Array.getElem?_eq_getElem hp]
  exact c
 done:=fun s Q E st hQ=>by
  have hl:(pickOrder (w.params.setOrder S ep) es).size=es.size:=by rw [←Array.length_toList,(ud _ es).length_eq,Array.length_toList]
  refine Nr hh st.1 st.2 rfl (fun c=>zm st.2 hb ?_) fun h' kk=>hQ h' s.toks fun b o hb e=>kk b o (fun z=>hb (by simp [z])) e
  rw [Array.getElem?_eq_none (by omega)]
  exact c
 self:=fun _ _ _ _ st hQ=>Av st.1 hQ
theorem Gz (hh:A.handled=none) (ne:S≠it) (np:pl≠it) (pp:ps.Perm (List.range es.size)):
  Walks prog w A it [it,S,pl] [it] es.size (fun i v=>(ps.map fun k=>(es.getD k (0,.none)).2)[i]?=some v) (fun i h=>zg h it S (.ref pl) i es.size ep∧pC (bt w) h S es ep t∧WW h pl ps) where
 sub:=fun b hb=>by simp at hb; simp [hb]
 frame:=fun _ _ _ st hk=>⟨st.1.at fun o e=>hk it (by simp) o e,st.2.1.at fun o e=>hk S (by simp) o e,st.2.2.at fun o e=>hk pl (by simp) o e⟩
 item:=fun i s Q E hi st hQ=>by
  have hl:ps.length=es.size:=by rw [pp.length_eq,List.length_range]
  have hp:i < ps.length:=by omega
  have hk:ps[i] < es.size:=List.mem_range.mp (pp.mem_iff.mp (List.getElem_mem hp))
  refine Rg (k:=ps[i]) (e:=es[ps[i]]) st.1 st.2.1 st.2.2 rfl (List.getElem?_eq_getElem hp) (Array.getElem?_eq_getElem hk) fun h' hit' same=>hQ _ h' s.toks ?_ ⟨hit',st.2.1.at fun o e=>(same.2 S ne).trans e,st.2.2.at fun o e=>(same.2 pl np).trans e⟩ fun b o hb e=>(same.2 b fun z=>hb (by simp [z])).trans e
  rw [List.getElem?_map,List.getElem?_eq_getElem hp,Option.map_some,Array.getD_eq_getD_getElem?,Array.getElem?_eq_getElem hk]
  rfl
 done:=fun s Q E st hQ=>by
  have hl:ps.length=es.size:=by rw [pp.length_eq,List.length_range]
  exact VL hh st.1 st.2.1 st.2.2 rfl (by omega) fun h' kk=>hQ h' s.toks fun b o hb e=>kk b o (fun z=>hb (by simp [z])) e
 self:=fun _ _ _ _ st hQ=>Av st.1 hQ
end
end L2
set_option maxHeartbeats 4000000
namespace L2
open PySem PySem.Spec PySem.W
section
variable {prog:Program} {w:World} {A:Around} {E:Value→Shared→Prop} {s:Shared} {S:Addr} {es:Array (Int×Value)} {ep:Nat} {t:SetTable}
theorem Kw {Q:Bool→Shared→Prop} (hs:pC (bt w) s.heap S es ep t) (h:Q (bt w&&(!t.plain&&decide (es.size > 1))) s):wpAny (model prog w) A (setDrawn S) Q E s:=by
 obtain ⟨os,hos,exs,hds,hf,tb⟩:=id hs
 unfold setDrawn
 refine wpAny_bind (wpAny_setState_of hos hds hf ?_)
 refine wpAny_bind (vq (wpAny_pure ?_))
 rw [Bool.not_not]
 exact h
theorem Nu {Q:Value→Shared→Prop} (hh:A.handled=none) (hs:pC (bt w) s.heap S es ep t) (hb:es.size < scanBound)
  (h:∀(I:Addr) (h1:Heap) (d:Drawn) (fp:List Addr) (out:List Value) (St:Nat→Heap→Prop),Walks prog w A I fp [I] es.size (fun i v=>out[i]?=some v) St→St 0 h1→out.Perm (es.toList.map (·.2))→(∀b o,s.heap.get? b=some o→h1.get? b=some o)→s.heap.objs.size≤I→
   (∀b∈fp,b=S∨s.heap.objs.size≤b)→Q (.ref I) { s with heap:=h1,drawn:=d }):wpAny (model prog w) A (pyIter (.ref S)) Q E s:=by
 obtain ⟨os,hos,exs,hds,hf,tb⟩:=id hs
 have hT:s.TypeIs (.ref S) "set":=⟨os,hos,exs.1⟩
 have lt:S < s.heap.objs.size:=Heap.lt_size hos
 have hz:t.place.size=es.size:=by
  have:=hf
  simp only [SetTable.fits,Bool.and_eq_true,beq_iff_eq] at this
  exact this.1
 refine wpAny_pyIter_slot hT F.slot_set_iter (wpAny_call_entry F.slot_set_iter hT Gy ?_ (F.args_set_iter_1 _))
 unfold Builtin.«frozenset.__iter__» Builtin.Frozenset.slot0 Builtin.Frozenset.sizeOf
 refine wpAny_bind (wpAny_bind (wpAny_pure (wpAny_pure ?_)))
 refine wpAny_bind (wpAny_bind (wpAny_setEntries_of hos hds hf (wpAny_pure ?_)))
 refine wpAny_bind (Kw hs ?_)
 by_cases hd:(bt w&&(!t.plain&&decide (es.size > 1)))=true
 ·rw [if_pos hd]
  refine wpAny_bind (Dh _ _ _ _ (List.length_range ..) fun ps d pp=>?_)
  have pl:ps.length=es.size:=by rw [pp.length_eq,List.length_range]
  unfold newTuple
  refine wpAny_bind (wpAny_newObj_type ?_ (show (List.map (fun i:Nat=>rawInt i) ps).toArray.size≤sizeLine by rw [List.size_toArray,List.length_map,pl,sizeLine_eq]; unfold scanBound at hb; omega))
  have g1:(s.heap.push { cls:=.type "tuple",data:=.seq (ps.map fun k:Nat=>rawInt k).toArray }).get? S=some os:=Heap.get?_push_of_some _ hos
  refine wpAny_bind (wpAny_setEpoch_of (s:={ s with heap:=s.heap.push _,drawn:=d }) g1 hds hf ?_)
  refine wpAny_bind ?_
  unfold newFields
  refine wpAny_newObj_type ?_
  refine wpAny_pure ⟨_,rfl,"set_iterator",_,⟨_,Heap.get?_push_size _ rfl,rfl⟩,iK.lookup,?_⟩
  have T3:(s.heap.push { cls:=.type "tuple",data:=.seq (ps.map fun k:Nat=>rawInt k).toArray }).objs.size=s.heap.objs.size + 1:=Heap.size_push ..
  refine h _ _ d [_,S,s.heap.objs.size] _ _ (Gz (ep:=ep) (t:=t) hh ?_ ?_ pp) ⟨⟨_,Heap.get?_push_size _ rfl,rfl,rfl⟩,⟨os,Heap.get?_push_of_some _ g1,exs,hds,hf,tb⟩,⟨_,0,Heap.get?_push_of_some _ (Heap.get?_push_size _ rfl),rfl⟩⟩ ?_ (fun b o e=>Heap.get?_push_of_some _ (Heap.get?_push_of_some _ e)) ?_ ?_
  ·rw [T3]
   exact Nat.ne_of_lt (Nat.lt_succ_of_lt lt)
  ·rw [T3]
   exact Nat.ne_of_lt (Nat.lt_succ_self _)
  ·have e2:(List.range es.size).map (fun k=>(es.getD k (0,Value.none)).2)=es.toList.map (·.2):=by
    refine List.ext_getElem (by simp) fun j h1 h2=>?_
    have hj:j < es.size:=by simpa using h1
    simp [Array.getD_eq_getD_getElem?,Array.getElem?_eq_getElem hj]
   rw [←e2]
   exact pp.map _
  ·rw [T3]
   exact Nat.le_succ _
  ·intro b hb'
   simp only [List.mem_cons,List.not_mem_nil,or_false] at hb'
   rcases hb' with rfl | rfl | rfl
   ·right
    rw [T3]
    exact Nat.le_succ _
   ·exact .inl rfl
   ·exact .inr (Nat.le_refl _)
 ·rw [if_neg hd]
  refine wpAny_bind (wpAny_pure ?_)
  refine wpAny_bind (wpAny_setEpoch_of hos hds hf ?_)
  refine wpAny_bind ?_
  unfold newFields
  refine wpAny_newObj_type ?_
  refine wpAny_pure ⟨_,rfl,"set_iterator",_,⟨_,Heap.get?_push_size _ rfl,rfl⟩,iK.lookup,?_⟩
  have X7:∀b,b∈[s.heap.objs.size,S]→b=S∨s.heap.objs.size≤b:=fun b hb'=>by
   simp only [List.mem_cons,List.not_mem_nil,or_false] at hb'
   rcases hb' with rfl | rfl
   ·exact .inr (Nat.le_refl _)
   ·exact .inl rfl
  cases hbt:bt w with
  | true=>
   rw [hbt] at hd
   have nd:(!t.plain&&decide (es.size > 1))=false:=by simpa using hd
   exact h _ _ s.drawn [_,S] _ _ (Ku (ep:=ep) hh (Nat.ne_of_lt lt) hbt nd hz tb.ris) ⟨⟨_,Heap.get?_push_size _ rfl,rfl,rfl⟩,⟨os,Heap.get?_push_of_some _ hos,exs,hds,hf,tb⟩⟩ (.refl _) (fun b o e=>Heap.get?_push_of_some _ e) (Nat.le_refl _) X7
  | false=>
   exact h _ _ s.drawn [_,S] _ _ (Kv (ep:=ep) (t:=t) hh (Nat.ne_of_lt lt) hbt) ⟨⟨_,Heap.get?_push_size _ rfl,rfl,rfl⟩,⟨os,Heap.get?_push_of_some _ hos,exs,hds,hf,tb⟩⟩ ((ud _ es).map _) (fun b o e=>Heap.get?_push_of_some _ e) (Nat.le_refl _) X7
end
end L2
set_option maxHeartbeats 4000000
namespace L2
open PySem PySem.Spec PySem.W PyProof.Rows
section
variable {prog:Program} {w:World} {A:Around} {E:Value→Shared→Prop} {s:Shared} {S:Addr} {es:Array (Int×Value)} {ep:Nat} {t:SetTable}
theorem Nv {Q:Bool→Shared→Prop} (hT:s.TypeIs (.ref S) "set") (h:Q false s):wpAny (model prog w) A (Builtin.List.listLengthHint (.ref S)) Q E s:=by
 unfold Builtin.List.listLengthHint
 refine wpAny_bind (wpAny_specialOf hT PySem.F.slot_set_len.lookup ?_)
 generalize hid:("set.__len__":String)=nm
 wp_delta
 rw [show splitId nm=some ("set","__len__") by subst hid; decide +kernel]
 subst hid
 refine wpAny_bind (wpAny_isInstance (T:="set") (b:=true) hT (by rw [isSubtype_type]; kernel_rfl) ?_)
 refine wpAny_ite_split (fun z=>absurd z (by decide)) fun _=>wpAny_ite_split (fun _=>?_) fun z=>absurd (by decide +kernel) z
 exact wpAny_bind (wpAny_typeOf hT (wpAny_pure h))
theorem Ky {out:List Value} {acc:Array Value} (h:ItemsOf (fun i v=>out[i]?=some v) acc out.length):acc=out.toArray:=by
 refine Array.ext (by simpa using h.1) fun j h1 h2=>?_
 have this:out[j]?=some acc[j]:=h.2 j acc[j] (Array.getElem?_eq_getElem h1)
 have hj:j < out.length:=by simpa using h2
 rw [List.getElem?_eq_getElem hj] at this
 simpa using (Option.some.inj this).symm
theorem GC {R:Result→Shared→Prop} (hh:A.handled=none) (hs:pC (bt w) s.heap S es ep t) (hb:es.size < scanBound) {L:Addr} (ne:L≠S) {c0:Nat} (hL:s.heap.get? L=some { cls:=.type "list",data:=.seq #[] c0 }) (res:Value)
  (hR:∀(h':Heap) (d:Drawn) (tk:Nat) (us:List Value) (c':Nat),us.Perm (es.toList.map (·.2))→(∀b o,b≠L→s.heap.get? b=some o→h'.get? b=some o)→h'.get? L=some { cls:=.type "list",dict:=none,data:=.seq us.toArray c',slots:=#[] }→
   R (.ok (.ret res)) { s with heap:=h',drawn:=d,toks:=tk }):
  wpAny (model prog w) A.in1 (Builtin.List.listExtendWith (.ref L) (.ref S) res) (fun fin s'=>match fin with | .done f=>R (.ok f) s' | .again c'=>c'.quiet=true∧codeAny (model prog w) A c' R s') (fun e s'=>R (.error e) s') s:=by
 obtain ⟨os,hos,exs,hds,hf,tb⟩:=id hs
 have hT:s.TypeIs (.ref S) "set":=⟨os,hos,exs.1⟩
 have ltL:L < s.heap.objs.size:=Heap.lt_size hL
 unfold Builtin.List.listExtendWith
 refine wpAny_bind (wpAny_typeOf hT ?_)
 rw [show (Builtin.List.listSameRef (.ref L) (.ref S) || Value.type "set"==Value.type "list" || Value.type "set"==Value.type "tuple")=false by
  rw [show Builtin.List.listSameRef (.ref L) (.ref S)=false by simp [Builtin.List.listSameRef,ne]]
  decide]
 simp only [Bool.false_eq_true,if_false]
 refine wpAny_bind (Nu (A:=A.in1) hh hs hb fun I h1 d fp out St W st pm kp geI okf=>?_)
 have lo:out.length=es.size:=by rw [pm.length_eq,List.length_map,Array.length_toList]
 have gf:L∉fp:=fun z=>(okf L z).elim ne fun z'=>absurd ltL (Nat.not_lt.mpr z')
 have run:∀(h2:Heap) (c1 tk:Nat),St 0 h2→(∀b o,b≠L→s.heap.get? b=some o→h2.get? b=some o)→h2.get? L=some { cls:=.type "list",data:=.seq #[] c1 }→
   codeAny (model prog w) A (.builtin "list.extend.loop" ⟨[.ref L,.ref I,res],[]⟩) R { s with heap:=h2,drawn:=d,toks:=tk }:=fun h2 c1 tk st2 k2 g2=>by
  refine codeAny_extend_loopS W.toS (fits_of_scanBound hb) L gf res es.size 0 _ #[] c1 rfl (Nat.zero_le _) st2 g2 (ItemsOf.nil _) fun s3 acc c3 mv g3 io=>?_
  rw [←lo] at io
  have ea:=Ky io
  subst ea
  rw [Moved.eq_with mv]
  refine hR s3.heap d s3.toks out c3 pm (fun b o nb e=>mv.heap b o (fun z=>?_) (k2 b o nb e)) g3
  rcases List.mem_cons.mp z with z | z
  ·exact nb z
  ·exact absurd (Heap.lt_size e) (by rw [List.mem_singleton.mp z]; exact Nat.not_lt.mpr geI)
 have gL:=kp L _ hL
 have gS:Shared.TypeIs { s with heap:=h1,drawn:=d } (.ref S) "set":=⟨os,kp S _ hos,exs.1⟩
 refine wpAny_bind (wpAny_holding (Nv gS ?_))
 refine wpAny_ite_split (fun _=>?_) fun _=>wpAny_pure ⟨plainId_quiet PySem.F.plain_extend_loop _,run h1 c0 s.toks st (fun b o _ e=>kp b o e) gL⟩
 refine wpAny_bind (wpAny_rule (wpAny_bind (show wpAny _ _ (updateSeq L (·.push .none) >>= fun _=>updateSeq L (·.pop)) _ _ _ from ?_)))
 refine wpAny_bind (wpAny_updateSeq gL rfl ?_)
 have u2:=Heap.get?_update_self (Obj.mapSeq (·.push Value.none)) gL rfl
 refine wpAny_updateSeq (hz:=by seq_fits) u2 rfl ?_
 have u3:=Heap.get?_update_self (Obj.mapSeq (·.pop)) u2 rfl
 have far:∀b o,b≠L→h1.get? b=some o→((h1.update L (Obj.mapSeq (·.push Value.none))).update L (Obj.mapSeq (·.pop))).get? b=some o:=fun b o nb e=>
  (Heap.get?_update_other _ _ (Ne.symm nb)).trans ((Heap.get?_update_other _ _ (Ne.symm nb)).trans e)
 exact wpAny_pure ⟨plainId_quiet PySem.F.plain_extend_loop _,run _ _ s.toks (W.frame 0 _ _ st fun b hb' o e=>far b o (fun z=>gf (z ▸ hb')) e) (fun b o nb e=>far b o nb (kp b o e)) u3⟩
theorem Di {R:List Value→Shared→Prop} (hh:A.handled=none) (hs:pC (bt w) s.heap S es ep t) (hb:es.size < scanBound)
  (h:∀(h':Heap) (d:Drawn) (tk:Nat) (us:List Value),us.Perm (es.toList.map (·.2))→s.heap.objs.size≤h'.objs.size→(∀b o,s.heap.get? b=some o→h'.get? b=some o)→R us { s with heap:=h',drawn:=d,toks:=tk }):
  wpAny (model prog w) A (collect (.ref S)) R E s:=by
 have ltS:S < s.heap.objs.size:=let ⟨_,e,_⟩:=hs; Heap.lt_size e
 unfold collect
 refine wpAny_bind (wpAny_runValue (codeAny_builtin entry_proto_collect' ?_)); rw [Around.under_plainId PySem.F.plain_proto_collect _]
 show wpAny _ A.in1 (newList [] >>= fun l=>again (.builtin "list.__iadd__" ⟨[l,.ref S],[]⟩)) _ _ s
 refine wpAny_bind (wpAny_newObj_type (wpAny_pure ⟨plainId_quiet PySem.F.plain_list_iadd _,codeAny_builtin entry_list_iadd' ?_⟩)); rw [Around.under_plainId PySem.F.plain_list_iadd _]
 have g0:(s.heap.push { cls:=.type "list",data:=.seq ([]:List Value).toArray }).get? s.heap.objs.size=some { cls:=.type "list",data:=.seq #[] }:=Heap.get?_push_size _ rfl
 show wpAny _ A.in1 (Builtin.List.listExtendWith (.ref s.heap.objs.size) (.ref S) (.ref s.heap.objs.size)) _ _ _
 have key:=GC (prog:=prog) (A:=A) (s:={ s with heap:=s.heap.push { cls:=.type "list",data:=.seq ([]:List Value).toArray } })
  (R:=fun (q:Result) (s':Shared)=>∃(h':Heap) (d:Drawn) (tk:Nat) (us:List Value) (c':Nat),q=.ok (.ret (.ref s.heap.objs.size))∧s'={ s with heap:=h',drawn:=d,toks:=tk }∧us.Perm (es.toList.map (·.2))∧(∀b o,s.heap.get? b=some o→h'.get? b=some o)∧h'.get? s.heap.objs.size=some { cls:=.type "list",dict:=none,data:=.seq us.toArray c',slots:=#[] })
  hh (hs.at fun o e=>Heap.get?_push_of_some _ e) hb (Nat.ne_of_gt ltS) g0 (.ref s.heap.objs.size) (fun h' d tk us c' pm kk g=>⟨h',d,tk,us,c',rfl,rfl,pm,fun b o e=>kk b o (Nat.ne_of_lt (Heap.lt_size e)) (Heap.get?_push_of_some _ e),g⟩)
 refine wpAny_mono key (fun fin s' x=>?_) fun e s' x=>?_
 ·cases fin with
  | done f=>
   obtain ⟨h',d,tk,us,c',e,rfl,pm,kk,g⟩:=x
   cases e
   show wpAny _ A (load s.heap.objs.size >>= _) _ _ _
   exact wpAny_bind (wpAny_load g (wpAny_pure (h h' d tk us pm (Nat.le_of_lt (Heap.lt_size g)) kk)))
  | again c1=>
   refine ⟨x.1,codeAny_mono x.2 fun q s2 y=>?_⟩
   obtain ⟨h',d,tk,us,c',rfl,rfl,pm,kk,g⟩:=y
   show wpAny _ A (load s.heap.objs.size >>= _) _ _ _
   exact wpAny_bind (wpAny_load g (wpAny_pure (h h' d tk us pm (Nat.le_of_lt (Heap.lt_size g)) kk)))
 ·obtain ⟨_,_,_,_,_,e',_⟩:=x
  cases e'
end
end L2
set_option maxHeartbeats 4000000
namespace L2
open PySem PySem.Spec PySem.W PyProof.Rows
section
variable {prog:Program} {w:World} {A:Around} {E:Value→Shared→Prop} {s:Shared} {S:Addr} {es:Array (Int×Value)} {ep:Nat} {t:SetTable}
theorem wJ {Ok:List Value→Prop} {Q:Value→Shared→Prop} (hh:A.handled=none) (hs:pC (bt w) s.heap S es ep t) (few:es.size < 64)
  (srt:∀us:List Value,us.Perm (es.toList.map (·.2))→∀(B:Around) (s1:Shared) (a:Addr) (n:Nat) (P:Fin→Shared→Prop) (E':Value→Shared→Prop),s1.heap.get? a=some (seqObj "list" us.toArray n)→
   (∀out:Array Value,Ok out.toList→P (.done (.ret .none)) { s1 with heap:=sortedHeap s1.heap a us out })→wpAny (model prog w) B (Builtin.«list.sort» ⟨[.ref a],[]⟩) P E' s1)
  (h:∀(D:Addr) (h':Heap) (d:Drawn) (tk c:Nat) (out:Array Value),Ok out.toList→s.heap.objs.size≤D→(∀b o,s.heap.get? b=some o→h'.get? b=some o)→h'.get? D=some (seqObj "list" out c)→Q (.ref D) { s with heap:=h',drawn:=d,toks:=tk }):
  wpAny (model prog w) A (call (.builtin "sorted") [.ref S]) Q E s:=by
 refine Calls.call_function_entry kind_sorted plain_sorted entry_sorted (args_sorted1 _) ?_
 unfold Builtin.«sorted»
 refine wpAny_bind (m:=checkCount "sorted" 1 1 _) (wpAny_pure (wpAny_bind (Di (A:=A.in1) hh hs (by unfold scanBound; omega) fun h1 d tk us pm ge kk=>?_)))
 have lu:us.length=es.size:=by rw [pm.length_eq,List.length_map,Array.length_toList]
 refine wpAny_bind (wpAny_newList ?_ (by rw [sizeLine_eq]; omega))
 have gL:(h1.push (seqObj "list" us.toArray 0)).get? h1.objs.size=some (seqObj "list" us.toArray 0):=Heap.get?_push_size _ rfl
 refine wpAny_bind (wpAny_holding (wpAny_call_entry slot_list_sort ⟨_,gL,rfl⟩ entry_list_sort (srt us pm _ { s with heap:=h1.push (seqObj "list" us.toArray 0),drawn:=d,toks:=tk } _ 0 _ _ gL fun out ok=>⟨_,rfl,?_⟩) (args_list_sort _)))
 obtain ⟨c,gD⟩:=sortedHeap_at (out:=out) gL
 refine wpAny_pure ⟨_,rfl,h h1.objs.size _ d tk c out ok ge (fun b o e=>?_) gD⟩
 have lb:b < h1.objs.size:=Heap.lt_size (kk b o e)
 show (sortedHeap (h1.push (seqObj "list" us.toArray 0)) h1.objs.size us out).get? b=some o
 rw [sortedHeap_old (Nat.ne_of_lt lb) (by rw [Heap.size_push]; exact Nat.lt_succ_of_lt lb)]
 exact Heap.get?_push_of_some _ (kk b o e)
end
end L2
set_option maxHeartbeats 4000000
namespace L2
open PySem PySem.Spec PySem.W PyProof.Rows
theorem Inv.drew {X:Cx} {pins:List (Addr×Obj)} {σ:St} {H:Hp} {s:Shared} (d:Drawn) (I:Inv X pins σ H s):Inv X pins σ H { s with drawn:=d }:=
 I.call (g':=s.gens) (t':=s.toks) (d':=d) (ch:=[]) (Un.kept fun _ _ e=>e) (I.hok.kept fun _ _ e=>e) I.bare (fun _ z=>nomatch z)
theorem wK {α:Type} (l:List α) (d:α):(List.range l.length).map (fun i=>l.getD i d)=l:=by
 refine List.ext_getElem (by simp) fun i h1 h2=>?_
 simp [h2]
section
variable {X:Cx} {T:Type} [DecidableEq T] {knd:PySem.KeyKind X.prog X.w T} {l:Expr} {tl:TE} {p1 p2 pos1 pos2:Pos}
theorem Dj (mk:T→V) (dflt:T) (hk:∀k v,RelV (mk k) v→knd.is k v=true∧v.scannable=true) (hc:X.calm=true) (hl:PE X l tl) (g2:Gl X "set") (m2:X.mg "set"=none) {pins:List (Addr×Obj)} {s:Shared} {σ:St} {H:Hp} {R:List T→Hp→Prop} (I:Inv X pins σ H s)
  (h:tl σ H fun x H1=>∃(a:Addr) (ns:List T),[x]=[V.ref a]∧dW X.K H1 a (ns.map mk)∧ns.length < 64∧R ns H1) (he:starEach [l] X.env=(false,eval l X.env)::starEach [] X.env:=by rfl) (hpl:(backTo pos2 (starEach [] X.env)).any (·.1)=false:=by rfl):
  wpAny (model X.prog X.w) X.A (eval (.Call (.Name "set" p2) [l] [] pos2) X.env) (fun v s'=>∃(S:Addr) (ns:List T) (H1:Hp),v=.ref S∧Inv X pins σ H1 s'∧oU knd s'.heap S (dedup ns)∧ns.length < 64∧R ns H1) X.xe s:=by
 refine wpAny_Call_Name_kw (nC I g2 m2 (u:=.type "set") rfl ?_)
 refine PyProof.Rows.callWith_type1 (eZ (gw hl lY he pos2 pins s σ H (fun vs H1=>∃(a:Addr) (ns:List T),vs=[V.ref a]∧dW X.K H1 a (ns.map mk)∧ns.length < 64∧R ns H1) I h) fun us s1 ⟨vs,H1,I1,r1,q1⟩=>?_) he hpl
 obtain ⟨a,ns,rfl,ha,h64,q⟩:=q1
 obtain ⟨u,rfl,ru⟩:=vals1 r1
 cases ru
 obtain ⟨its,rv,pl,_⟩:=I1.list ha
 have ln:its.length=ns.length:=by rw [←rv.length,List.length_map]
 have at':∀i v,its.toArray[i]?=some v→knd.is (ns.getD i dflt) v=true∧v.scannable=true:=fun i v e=>by
  rw [List.getElem?_toArray] at e
  have hi:i < its.length:=(List.getElem?_eq_some_iff.mp e).1
  have r:=Vals.get (i:=i) (x:=mk (ns.getD i dflt)) rv (by simp [List.getElem?_map,List.getElem?_eq_getElem (ln ▸ hi),List.getD])
  obtain ⟨v',e',r'⟩:=r
  rw [e] at e'
  cases e'
  exact hk _ _ r'
 refine Kq (knd:=knd) (val:=fun i=>ns.getD i dflt) (I1.ok.hd hc) pl.isList at' (by rw [List.size_toArray,ln]; unfold scanBound; omega) fun h' tk hS kk=>?_
 have e0:(List.range its.toArray.size).map (fun i=>ns.getD i dflt)=ns:=by rw [show its.toArray.size=ns.length from (List.size_toArray ..).trans ln,wK]
 rw [e0] at hS
 exact ⟨_,ns,H1,rfl,I1.kept kk,hS,h64,q⟩
end
def VM:Value→Int
 | .int k _=>k
 | _=>0
theorem Dk:∀(us:List Value),(∀v,v∈us→∃k t,v=.int k t)→IntsAre us (us.map VM)
 | [],_=>.nil
 | v::us,h=>by
  obtain ⟨k,t,rfl⟩:=h v (List.mem_cons_self ..)
  exact .cons k t (Dk us fun x hx=>h x (List.mem_cons_of_mem _ hx))
section
variable {prog:Program} {w:World}
theorem Nx {es:List (Int×Value)} {ks:List Int} (h:yG (PySem.intKind prog w) es ks):(es.map (·.2)).map VM=ks∧∀v,v∈es.map (·.2)→∃k t,v=.int k t:=by
 induction h with
 | nil=>exact ⟨rfl,fun v hv=>by cases hv⟩
 | @cons e k es ks a _ ih=>
  obtain ⟨t,ht⟩:=Value.isInt_shape (show Value.isInt k e.2=true from a.1)
  refine ⟨by rw [List.map_cons,List.map_cons,ih.1,ht]; rfl,fun v hv=>?_⟩
  rcases List.mem_cons.mp hv with rfl | hv
  ·exact ⟨k,t,ht⟩
  ·exact ih.2 v hv
theorem Ny {es:List (Int×Value)} {ks:List Str} (h:yG (PySem.strKind prog w) es ks):(es.map (·.2)).map strOf=ks∧∀v,v∈es.map (·.2)→∃x t,v=.str x t:=by
 induction h with
 | nil=>exact ⟨rfl,fun v hv=>by cases hv⟩
 | @cons e k es ks a _ ih=>
  obtain ⟨t,ht⟩:=Value.isStrOf_shape (show Value.isStrOf k e.2=true from a.1)
  refine ⟨by rw [List.map_cons,List.map_cons,ih.1,ht]; rfl,fun v hv=>?_⟩
  rcases List.mem_cons.mp hv with rfl | hv
  ·exact ⟨k,t,ht⟩
  ·exact ih.2 v hv
end
def X8 (K:PySem.W.Frag) (tl:TE):TE:=fun σ H Q=>tl σ H fun x H1=>∃(a:Addr) (ns:List Int),[x]=[V.ref a]∧dW K H1 a (ns.map V.int)∧ns.length < 64∧∀(D:Addr) (ns':List Int),H1 D=none→ns'.Perm (dedup ns)→ns'.Pairwise (·≤·)→Q (.ref D) (upd H1 D (.lst (ns'.map V.int)))
def Yb (K:PySem.W.Frag) (tl:TE):TE:=fun σ H Q=>tl σ H fun x H1=>∃(a:Addr) (ns:List Str),[x]=[V.ref a]∧dW K H1 a (ns.map V.str)∧ns.length < 64∧∀(D:Addr) (ns':List Str),H1 D=none→ns'.Perm (dedup ns)→sortedS ns'=true→Q (.ref D) (upd H1 D (.lst (ns'.map V.str)))
section
variable {X:Cx} {l:Expr} {tl:TE} {p1 p2 pos1 pos2:Pos}
theorem Dl (hc:X.calm=true) (hl:PE X l tl) (g1:Gl X "sorted") (m1:X.mg "sorted"=none) (g2:Gl X "set") (m2:X.mg "set"=none)
  (he:starEach [.Call (.Name "set" p2) [l] [] pos2] X.env=(false,eval (.Call (.Name "set" p2) [l] [] pos2) X.env)::starEach [] X.env:=by rfl) (hpl:(backTo pos1 (starEach [] X.env)).any (·.1)=false:=by rfl)
  (he2:starEach [l] X.env=(false,eval l X.env)::starEach [] X.env:=by rfl) (GD:(backTo pos2 (starEach [] X.env)).any (·.1)=false:=by rfl):
  PE X (.Call (.Name "sorted" p1) [.Call (.Name "set" p2) [l] [] pos2] [] pos1) (X8 X.K tl):=by
 intro pins s σ H Q I h
 refine wpAny_Call_Name_kw (nC I g1 m1 (u:=.builtin "sorted") rfl ?_)
 refine PyProof.Rows.callWith_builtin1 ?_ he hpl
 rw [he]
 show wpAny _ _ (spliced ((false,eval (.Call (.Name "set" p2) [l] [] pos2) X.env)::backTo pos1 (starEach [] X.env))) _ _ s
 refine Calls.spliced_cons (eZ (Dj (knd:=PySem.intKind X.prog X.w) V.int 0 (fun k v r=>?_) hc hl g2 m2 I h he2 GD) fun v s1 ⟨S,ns,H1,e,I1,hS,h64,q⟩=>Calls.spliced_nil ?_)
 ·obtain ⟨t,rfl⟩:=r
  exact ⟨PySem.intKind_is _ _ _ _,rfl⟩
 subst e
 obtain ⟨o,es,ep,t,ho,ex,hd,⟨ks',ek,pk⟩,hb,hf,tb⟩:=hS
 obtain ⟨e1,e2⟩:=Nx ek
 have few:es.size < 64:=by
  have:=mR ns
  rw [←Array.length_toList,ek.len,pk.length_eq]
  omega
 refine wJ (Ok:=fun out=>∃ns',IntsAre out ns'∧ns'.Perm (dedup ns)∧ns'.Pairwise (·≤·)) (I1.ok.hd hc) ⟨o,ho,ex,hd,hf,tb⟩ few (fun us pm B s2 a n P E' ho' hp=>?_) fun D h' d tk c out ok ge kk gD=>?_
 ·refine list_sort_tree ho' (Dk us fun v hv=>e2 v (pm.mem_iff.mp hv)) (by rw [pm.length_eq,List.length_map,Array.length_toList]; exact few) fun out ns' a1 a2 a3=>hp out ⟨ns',a1,a2.trans ?_,a3⟩
  exact (pm.map VM).trans (by rw [e1]; exact pk)
 ·obtain ⟨ns',a1,a2,a3⟩:=ok
  have hz:ns'.length≤sizeLine:=by
   have:=mR ns
   rw [a2.length_eq,sizeLine_eq]
   omega
  exact ⟨.ref D,_,(I1.laid (o:=.lst (ns'.map V.int)) (t':=tk) kk ge ⟨by rw [List.length_map]; exact hz,out.toList,c,pU a1,by simpa [seqObj] using gD⟩).drew d,rfl,q D ns' (I1.hok.fresh ge) a2 a3⟩
theorem Dm (hc:X.calm=true) (hl:PE X l tl) (g1:Gl X "sorted") (m1:X.mg "sorted"=none) (g2:Gl X "set") (m2:X.mg "set"=none)
  (he:starEach [.Call (.Name "set" p2) [l] [] pos2] X.env=(false,eval (.Call (.Name "set" p2) [l] [] pos2) X.env)::starEach [] X.env:=by rfl) (hpl:(backTo pos1 (starEach [] X.env)).any (·.1)=false:=by rfl)
  (he2:starEach [l] X.env=(false,eval l X.env)::starEach [] X.env:=by rfl) (GD:(backTo pos2 (starEach [] X.env)).any (·.1)=false:=by rfl):
  PE X (.Call (.Name "sorted" p1) [.Call (.Name "set" p2) [l] [] pos2] [] pos1) (Yb X.K tl):=by
 intro pins s σ H Q I h
 refine wpAny_Call_Name_kw (nC I g1 m1 (u:=.builtin "sorted") rfl ?_)
 refine PyProof.Rows.callWith_builtin1 ?_ he hpl
 rw [he]
 show wpAny _ _ (spliced ((false,eval (.Call (.Name "set" p2) [l] [] pos2) X.env)::backTo pos1 (starEach [] X.env))) _ _ s
 refine Calls.spliced_cons (eZ (Dj (knd:=PySem.strKind X.prog X.w) V.str ⟨#[]⟩ (fun k v r=>?_) hc hl g2 m2 I h he2 GD) fun v s1 ⟨S,ns,H1,e,I1,hS,h64,q⟩=>Calls.spliced_nil ?_)
 ·obtain ⟨t,rfl⟩:=r
  exact ⟨PySem.strKind_is _ _ _ _,rfl⟩
 subst e
 obtain ⟨o,es,ep,t,ho,ex,hd,⟨ks',ek,pk⟩,hb,hf,tb⟩:=hS
 obtain ⟨e1,e2⟩:=Ny ek
 have few:es.size < 64:=by
  have:=mR ns
  rw [←Array.length_toList,ek.len,pk.length_eq]
  omega
 refine wJ (Ok:=fun out=>∃ns',StrsAre out ns'∧ns'.Perm (dedup ns)∧sortedS ns'=true) (I1.ok.hd hc) ⟨o,ho,ex,hd,hf,tb⟩ few (fun us pm B s2 a n P E' ho' hp=>?_) fun D h' d tk c out ok ge kk gD=>?_
 ·have hS:StrsAre us (us.map strOf):=strsAre_map us fun v hv=>e2 v (pm.mem_iff.mp hv)
  refine list_sort_treeK strKind_oneLt ho' hS.keysOf (fun v1 v2 rest e=>keyKind_strs (by rw [←e]; exact hS)) (by rw [pm.length_eq,List.length_map,Array.length_toList]; exact few) fun st hp1 hp2=>?_
  obtain ⟨ss',b1,b2,b3⟩:=sorted_out_str hS hp1 hp2
  exact hp _ ⟨ss',b1,b2.trans ((pm.map strOf).trans (by rw [e1]; exact pk)),b3⟩
 ·obtain ⟨ns',a1,a2,a3⟩:=ok
  have hz:ns'.length≤sizeLine:=by
   have:=mR ns
   rw [a2.length_eq,sizeLine_eq]
   omega
  exact ⟨.ref D,_,(I1.laid (o:=.lst (ns'.map V.str)) (t':=tk) kk ge ⟨by rw [List.length_map]; exact hz,out.toList,c,tV a1,by simpa [seqObj] using gD⟩).drew d,rfl,q D ns' (I1.hok.fresh ge) a2 a3⟩
end
end L2
set_option maxHeartbeats 4000000
namespace L2
open PySem PySem.Spec PySem.W PyProof.Rows
section
variable {prog:Program} {w:World} {A:Around} {E:Value→Shared→Prop} {s:Shared} {R:Result→Shared→Prop} {I S:Addr} {fp wr:List Addr} {n:Nat} {Pv:Nat→Value→Prop} {St:Nat→Heap→Prop} {bt:Nat→Nat→Bool}
def Yc (v:Value) (c:Nat):Obj:={ cls:=.type "list",dict:=none,data:=.seq #[v,v] c,slots:=#[] }
theorem Rh (W:Walks prog w A.in1 I fp wr n Pv St) (cmp:CmpOf prog w A.in1 .Gt Pv bt) (out:S∉fp) (kw:List (Str×Value)):∀(m j:Nat) (s:Shared) (vb:Value) (c:Nat),n - (j + 1)=m→j + 1≤n→St (j + 1) s.heap→Pv (argBest bt j) vb→s.heap.get? S=some (Yc vb c)→
  (∀v h' tk,Pv (argBest bt (n - 1)) v→(∀b o,b∉wr→b≠S→s.heap.get? b=some o→h'.get? b=some o)→R (.ok (.ret v)) { s with heap:=h',toks:=tk })→codeAny (model prog w) A (.builtin "max.loop" ⟨[.ref I,.none,.ref S],kw⟩) R s:=by
 have Gx:S∉wr:=fun z=>out (W.sub _ z)
 have nm:(toString "max"++toString ".loop":String)="max.loop":=by decide
 intro m
 induction m with
 | zero=>
  intro j s vb c hm hj st pb hS hR
  have last:j + 1=n:=by omega
  refine codeAny_builtin PySem.F.entry_max_loop ?_; rw [Around.under_plainId PySem.F.plain_max_loop _]
  show wpAny _ A.in1 (seqItems? (.ref S) >>= _) _ _ s; refine wpAny_bind (wpAny_seqItems hS rfl ?_)
  show wpAny _ A.in1 (tryCatch (pyNext (.ref I)) _ >>= _) _ _ s; refine wpAny_bind (wpAny_tryCatch (W.done s _ _ (last ▸ st) fun h' tk kk=>?_))
  have g:=kk S _ Gx hS
  show wpAny _ A.in1 (updateSeq S (fun _=>#[]) >>= _) _ _ _; refine wpAny_bind (wpAny_updateSeq g rfl (wpAny_bind (wpAny_letGo (wpAny_pure ?_))))
  exact hR vb _ tk (by rw [←last]; exact pb) fun b o hb hbS e=>(Heap.get?_update_other _ _ (Ne.symm hbS)).trans (kk b o hb e)
 | succ m ih=>
  intro j s vb c hm hj st pb hS hR
  have lt:j + 1 < n:=by omega
  refine codeAny_builtin PySem.F.entry_max_loop ?_; rw [Around.under_plainId PySem.F.plain_max_loop _]
  show wpAny _ A.in1 (seqItems? (.ref S) >>= _) _ _ s; refine wpAny_bind (wpAny_seqItems hS rfl ?_)
  show wpAny _ A.in1 (tryCatch (pyNext (.ref I)) _ >>= _) _ _ s; refine wpAny_bind (wpAny_tryCatch (W.item (j + 1) s _ _ lt st fun v h' tk pv st' kk=>?_))
  have g:=kk S _ Gx hS
  show wpAny _ A.in1 (tryCatch (holding [v,v] (richCompare .Gt v vb >>= _)) _ >>= _) _ _ _; refine wpAny_bind (wpAny_tryCatch (wpAny_holding (wpAny_bind (cmp (j + 1) (argBest bt j) v vb _ _ _ pv pb ?_))))
  refine wpAny_bind (wpAny_holding (wpAny_truthy_bool (wpAny_bind (wpAny_letGo (wpAny_pure ?_)))))
  cases hb:bt (j + 1) (argBest bt j) with
  | true=>
   simp only [if_true]
   refine wpAny_bind (wpAny_updateSeq g rfl (wpAny_bind (wpAny_letGo ?_))); rw [nm]
   refine wpAny_pure ⟨plainId_quiet PySem.F.plain_max_loop _,ih (j + 1) _ v _ (by omega) lt (W.frame _ _ _ st' fun b hbf o e=>(Heap.get?_update_other _ _ fun z:S=b=>out (z ▸ hbf)).trans e) (by simp only [argBest,hb,if_true]; exact pv) (Heap.get?_update_self _ g rfl) fun v' h2 tk2 Yd TX=>?_⟩
   exact hR v' h2 tk2 Yd fun b o hb' hbS e=>TX b o hb' hbS ((Heap.get?_update_other _ _ (Ne.symm hbS)).trans (kk b o hb' e))
  | false=>
   simp only [Bool.false_eq_true,if_false]
   refine wpAny_bind (wpAny_letGo ?_); rw [nm]
   refine wpAny_pure ⟨plainId_quiet PySem.F.plain_max_loop _,ih (j + 1) _ vb c (by omega) lt st' (by simp only [argBest,hb,Bool.false_eq_true,if_false]; exact pb) g fun v' h2 tk2 Yd TX=>?_⟩
   exact hR v' h2 tk2 Yd fun b o hb' hbS e=>TX b o hb' hbS (kk b o hb' e)
theorem Ri (W:Walks prog w A.in1 I fp wr n Pv St) (cmp:CmpOf prog w A.in1 .Gt Pv bt) (out:S∉fp) {k:Str} {d:Value} {c:Nat} (st:St 0 s.heap) (hS:s.heap.get? S=some { cls:=.type "list",dict:=none,data:=.seq #[] c,slots:=#[] })
  (hR:∀v h' tk,(if n=0 then v=d else Pv (argBest bt (n - 1)) v)→(∀b o,b∉wr→b≠S→s.heap.get? b=some o→h'.get? b=some o)→R (.ok (.ret v)) { s with heap:=h',toks:=tk }):codeAny (model prog w) A (.builtin "max.loop" ⟨[.ref I,.none,.ref S],[(k,d)]⟩) R s:=by
 have Gx:S∉wr:=fun z=>out (W.sub _ z)
 have nm:(toString "max"++toString ".loop":String)="max.loop":=by decide
 refine codeAny_builtin PySem.F.entry_max_loop ?_; rw [Around.under_plainId PySem.F.plain_max_loop _]
 show wpAny _ A.in1 (seqItems? (.ref S) >>= _) _ _ s; refine wpAny_bind (wpAny_seqItems hS rfl ?_)
 by_cases h0:n=0
 ·show wpAny _ A.in1 (tryCatch (pyNext (.ref I)) _ >>= _) _ _ s; refine wpAny_bind (wpAny_tryCatch (W.done s _ _ (h0 ▸ st) fun h' tk kk=>?_))
  show wpAny _ A.in1 (rule _ >>= fun _=>ret d) _ _ _
  exact wpAny_bind (wpAny_rule (wpAny_pure (hR d h' tk (by rw [if_pos h0]) fun b o hb _ e=>kk b o hb e)))
 ·show wpAny _ A.in1 (tryCatch (pyNext (.ref I)) _ >>= _) _ _ s; refine wpAny_bind (wpAny_tryCatch (W.item 0 s _ _ (by omega) st fun v h' tk pv st' kk=>?_))
  have g:=kk S _ Gx hS
  show wpAny _ A.in1 (updateSeq S (fun _=>#[v,v]) >>= _) _ _ _; refine wpAny_bind (wpAny_updateSeq g rfl ?_); rw [nm]
  refine wpAny_pure ⟨plainId_quiet PySem.F.plain_max_loop _,Rh W cmp out _ _ 0 _ v _ rfl (by omega) (W.frame _ _ _ st' fun b hbf o e=>(Heap.get?_update_other _ _ fun z:S=b=>out (z ▸ hbf)).trans e) pv (Heap.get?_update_self _ g rfl) fun v' h2 tk2 Yd TX=>?_⟩
  exact hR v' h2 tk2 (by rw [if_neg h0]; exact Yd) fun b o hb' hbS e=>TX b o hb' hbS ((Heap.get?_update_other _ _ (Ne.symm hbS)).trans (kk b o hb' e))
end
end L2
set_option maxHeartbeats 4000000
namespace L2
open PySem PySem.Spec PySem.W PyProof.Rows
section
variable {prog:Program} {w:World} {A:Around} {E:Value→Shared→Prop} {s:Shared}
theorem Kz (a d:Value):argsOk "max" ⟨[a],[("default",d)]⟩:=by unfold argsOk; kernel_rfl
def maxD (d:Int):List Int→Int
 | []=>d
 | n::ns=>ns.foldl max n
theorem Dp (val:Nat→Int):∀k,val (argBest (fun i j=>decide (val i > val j)) k)=((List.range k).map fun i=>val (i + 1)).foldl max (val 0)
 | 0=>rfl
 | k + 1=>by
  rw [List.range_succ,List.map_append,List.foldl_append,←Dp val k]
  rw [show argBest (fun i j=>decide (val i > val j)) (k + 1)=if decide (val (k + 1) > val (argBest (fun i j=>decide (val i > val j)) k)) then k + 1 else argBest (fun i j=>decide (val i > val j)) k from rfl]
  by_cases h:val (k + 1) > val (argBest (fun i j=>decide (val i > val j)) k)
  ·rw [if_pos (decide_eq_true h)]
   show val (k + 1)=max _ (val (k + 1))
   omega
  ·rw [if_neg (by simpa using h)]
   show _=max _ (val (k + 1))
   omega
theorem Iw (ns:List Int) (h:0 < ns.length) (d:Int):ns.getD (argBest (fun i j=>decide (ns.getD i 0 > ns.getD j 0)) (ns.length - 1)) 0=maxD d ns:=by
 have:=Dp (fun i=>ns.getD i 0) (ns.length - 1)
 rw [show ns.getD (argBest (fun i j=>decide (ns.getD i 0 > ns.getD j 0)) (ns.length - 1)) 0=_ from this]
 cases ns with
 | nil=>cases h
 | cons a as=>
  show _=as.foldl max a
  have e:(List.range ((a::as).length - 1)).map (fun i=>(a::as).getD (i + 1) 0)=as:=by
   rw [List.length_cons,Nat.add_sub_cancel]
   refine List.ext_getElem (by simp) fun i h1 h2=>?_
   simp [h2]
  rw [e]
  rfl
theorem Aw {id:String} {b:Builtin} {as:List Value} {kw:List (Str×Value)} {Q:Value→Shared→Prop} (hk:builtinKind id=none) (hp:plainId id=true) (hb:entryFor table id=some b) (ha:argsOk id ⟨as,kw⟩)
  (hc:wpAny (model prog w) A.in1 (b ⟨as,kw⟩) (fun fin s'=>match fin with
   | .done f=>(match (Except.ok f:Result) with | .ok (.ret v)=>Q v s' | .ok _=>False | .error e=>E e s')
   | .again c'=>c'.quiet=true∧codeAny (model prog w) A c' (fun r s'=>match r with | .ok (.ret v)=>Q v s' | .ok _=>False | .error e=>E e s') s') E s):wpAny (model prog w) A (call (.builtin id) as kw) Q E s:=by
 refine wpAny_call (codeAny_call_builtin hp hb ?_)
 simp only [checkBuiltinCall,hk]
 cases hg:Manifest.signature? id with
 | none=>exact wpAny_pure hc
 | some sg=>
  simp only [argsOk,hg] at ha
  show wpAny _ A.in1 (Bind.checkArgs id sg ⟨as,kw⟩) _ _ s
  rw [show Bind.checkArgs id sg ⟨as,kw⟩=pure () from ha]
  exact wpAny_pure hc
theorem KC {l:Addr} {its:List Value} {ns:List Int} {d:Value} {Q:Value→Shared→Prop} (hh:A.handled=none) (hl:s.heap.IsList l its.toArray) (hi:IntsAre its ns)
  (h:∀(v:Value) (h':Heap) (tk:Nat),(if ns=[] then v=d else ∃t,v=Value.int (maxD 0 ns) t)→(∀b o,s.heap.get? b=some o→h'.get? b=some o)→Q v { s with heap:=h',toks:=tk }):wpAny (model prog w) A (call (.builtin "max") [.ref l] [("default",d)]) Q E s:=by
 have nm:(toString "max"++toString ".loop":String)="max.loop":=by decide
 have ln:its.length=ns.length:=hi.length
 have Ye:l < s.heap.objs.size:=by obtain ⟨o,ho,_⟩:=hl; exact Heap.lt_size ho
 refine Aw PySem.F.kind_max PySem.F.plain_max PySem.F.entry_max (Kz _ _) ?_
 show wpAny _ A.in1 (Builtin.Builtins.bindParams "max" ["key","default"] 0 ⟨[],[("default",d)]⟩ >>= _) _ _ s
 refine wpAny_bind (wpAny_of_eq (show Builtin.Builtins.bindParams "max" ["key","default"] 0 ⟨[],[("default",d)]⟩=pure [none,some d] from rfl) (wpAny_bind (wpAny_pure ?_)))
 refine wpAny_bind (wpAny_pyIter_list hl (wpAny_bind (wpAny_newObj_type ?_)))
 rw [nm]
 have T3:(s.heap.push { cls:=.type "list_iterator",data:=.fields #[.ref l,.int 0 0] }).objs.size=s.heap.objs.size + 1:=Heap.size_push ..
 have W:=Walks.list (prog:=prog) (w:=w) (A:=A.in1) (by simp [hh]) s.heap.objs.size l (Nat.ne_of_lt Ye) its.toArray
 have val:∀(i:Nat) (v:Value),its.toArray[i]?=some v→∃t,v=Value.int (ns.getD i 0) t:=fun i v hv=>IntsAre.int_at hi i v (by simpa using hv)
 refine wpAny_pure ⟨plainId_quiet PySem.F.plain_max_loop _,?_⟩
 show codeAny (model prog w) A (.builtin "max.loop" ⟨[.ref s.heap.objs.size,.none,.ref (s.heap.push { cls:=.type "list_iterator",data:=.fields #[.ref l,.int 0 0] }).objs.size],[("default",d)]⟩) _ { s with heap:=(s.heap.push { cls:=.type "list_iterator",data:=.fields #[.ref l,.int 0 0] }).push { cls:=.type "list",data:=.seq #[] } }
 refine Ri W (CmpOf.ints_gt (fun i=>ns.getD i 0) val) ?_ ⟨⟨_,Heap.get?_push_of_some _ (Heap.get?_push_size _ rfl),rfl,rfl⟩,(hl.push _).push _⟩ (Heap.get?_push_size _ rfl) fun v h' tk hv kk=>?_
 ·rw [T3]
  simp only [List.mem_cons,List.not_mem_nil,or_false,not_or]
  exact ⟨Nat.ne_of_gt (Nat.lt_succ_self _),Nat.ne_of_gt (Nat.lt_succ_of_lt Ye)⟩
 ·refine h v h' tk ?_ fun b o e=>kk b o ?_ ?_ (Heap.get?_push_of_some _ (Heap.get?_push_of_some _ e))
  ·by_cases hn:ns=[]
   ·rw [if_pos hn]
    rw [if_pos (by rw [List.size_toArray,ln,hn]; rfl)] at hv
    exact hv
   ·rw [if_neg hn]
    have pos:0 < ns.length:=List.length_pos_iff.mpr hn
    rw [if_neg (by rw [List.size_toArray,ln]; omega),List.size_toArray,ln] at hv
    obtain ⟨t,e⟩:=val _ v hv
    rw [Iw ns pos 0] at e
    exact ⟨t,e⟩
  ·simp only [List.mem_cons,List.not_mem_nil,or_false]
   exact Nat.ne_of_lt (Heap.lt_size e)
  ·rw [T3]
   exact Nat.ne_of_lt (Nat.lt_succ_of_lt (Heap.lt_size e))
end
def Yg (K:PySem.W.Frag) (tl td:TE):TE:=fun σ H Q=>tl σ H fun x H1=>td σ H1 fun y H2=>∃(a:Addr) (ns:List Int) (k:Int),x=.ref a∧y=.int k∧dW K H2 a (ns.map V.int)∧Q (.int (maxD k ns)) H2
section
variable {X:Cx} {l de:Expr} {tl td:TE} {p pos kp:Pos}
theorem Rj (hc:X.calm=true) (hl:PE X l tl) (hd:PE X de td) (hg:Gl X "max") (hm:X.mg "max"=none) (he:starEach [l] X.env=(false,eval l X.env)::starEach [] X.env:=by rfl):PE X (.Call (.Name "max" p) [l] [⟨some "default",de,kp⟩] pos) (Yg X.K tl td):=by
 intro pins s σ H Q I h
 refine wpAny_Call_Name_kw (nC I hg hm (u:=.builtin "max") rfl ?_)
 have he2:backTo pos (starEach [l] X.env)=(false,eval l X.env)::backTo pos (starEach [] X.env):=by rw [he]; rfl
 refine callWith_kw (e:=l) (rest:=[]) ?_ (he:=he2) (hplain:=by rw [he2]; rfl)
 show wpAny _ _ (spliced (backTo pos (starEach [l] X.env))) _ _ s
 rw [he]
 show wpAny _ _ (spliced ((false,eval l X.env)::backTo pos (starEach [] X.env))) _ _ s
 refine Calls.spliced_cons (eZ (hl pins s σ H _ I h) fun v s1 ⟨x,H1,I1,r1,q1⟩=>Calls.spliced_nil ?_)
 refine kws_cons (eZ (hd pins s1 σ H1 _ I1 q1) fun u s2 ⟨y,H2,I2,r2,a,ns,k,ex,ey,ha,q2⟩=>kws_nil ?_)
 subst ex ey
 cases r1
 obtain ⟨t,rfl⟩:=r2
 obtain ⟨its,rv,pl,_⟩:=I2.list ha
 refine KC (I2.ok.hd hc) pl.isList (intsAre_of rv) fun v h' tk hv kk=>⟨.int (maxD k ns),H2,I2.kept kk,?_,q2⟩
 by_cases hn:ns=[]
 ·rw [if_pos hn] at hv
  rw [hn,hv]
  exact ⟨t,rfl⟩
 ·rw [if_neg hn] at hv
  obtain ⟨t',e⟩:=hv
  rw [e]
  cases ns with
  | nil=>exact absurd rfl hn
  | cons n ns=>exact ⟨t',rfl⟩
end
end L2
set_option maxHeartbeats 4000000
namespace L2
open PySem PySem.Spec PyProof.Rows PySem.W
def fP:PyData→Option Key
 | .int i=>some (.inl i)
 | .str x=>some (.inr x)
 | _=>none
def keysOf:List PyData→Option (List Key)
 | []=>some []
 | d::r=>match fP d,keysOf r with
  | some k,some t=>some (k::t)
  | _,_=>none
def fj:PyData→Option (List Key)
 | .tuple ds=>keysOf ds
 | _=>none
def cV {κ:Type} (f:PyData→Option κ):List (PyData×PyData)→Option (List κ)
 | []=>some []
 | p::r=>match f p.1,cV f r with
  | some k,some t=>some (k::t)
  | _,_=>none
def T5 (H:Hp) (a:Addr) (kvs:List (PyData×PyData)) (vs:List V):Prop:=
 (∃ks,cV fP kvs=some ks∧H a=some (.dK (ks.zip vs)))∨∃ks,(kvs≠[]∧cV fj kvs=some ks)∧H a=some (.dT (ks.zip vs))
mutual
def RZ (H:Hp):PyData→V→Prop
 | .none,v=>v=.non
 | .bool b,v=>v=.bl b
 | .int i,v=>v=.int i
 | .str x,v=>v=.str x
 | .list ds,v=>∃a vs,v=.ref a∧H a=some (.lst vs)∧g8 H ds vs
 | .tuple ds,v=>∃a vs,v=.ref a∧H a=some (.tup vs)∧g8 H ds vs
 | .dict kvs,v=>∃a vs,v=.ref a∧T5 H a kvs vs∧rB H kvs vs
def g8 (H:Hp):List PyData→List V→Prop
 | [],vs=>vs=[]
 | d::ds,vs=>∃v r,vs=v::r∧RZ H d v∧g8 H ds r
def rB (H:Hp):List (PyData×PyData)→List V→Prop
 | [],vs=>vs=[]
 | p::r,vs=>∃v t,vs=v::t∧RZp H p v∧rB H r t
def RZp (H:Hp):PyData×PyData→V→Prop
 | (_,d),v=>RZ H d v
end
theorem T5.same {H H':Hp} (s:bz H H') {a:Addr} {kvs:List (PyData×PyData)} {vs:List V} (h:T5 H a kvs vs):T5 H' a kvs vs:=by
 rcases h with ⟨ks,e,h⟩ | ⟨ks,e,h⟩
 ·exact .inl ⟨ks,e,s _ _ h⟩
 ·exact .inr ⟨ks,e,s _ _ h⟩
mutual
theorem RZ.same {H H':Hp} (s:bz H H'):∀{d:PyData} {v:V},RZ H d v→RZ H' d v
 | .none,_,h=>h
 | .bool _,_,h=>h
 | .int _,_,h=>h
 | .str _,_,h=>h
 | .list ds,_,h=>by
  obtain ⟨a,vs,e,q,r⟩:=h
  exact ⟨a,vs,e,s _ _ q,g8.same s r⟩
 | .tuple ds,_,h=>by
  obtain ⟨a,vs,e,q,r⟩:=h
  exact ⟨a,vs,e,s _ _ q,g8.same s r⟩
 | .dict kvs,_,h=>by
  obtain ⟨a,vs,e,q,r⟩:=h
  exact ⟨a,vs,e,q.same s,rB.same s r⟩
theorem g8.same {H H':Hp} (s:bz H H'):∀{ds:List PyData} {vs:List V},g8 H ds vs→g8 H' ds vs
 | [],_,h=>h
 | d::ds,vs,h=>by
  obtain ⟨v,r,e,q,t⟩:=h
  exact ⟨v,r,e,RZ.same s q,g8.same s t⟩
theorem rB.same {H H':Hp} (s:bz H H'):∀{kvs:List (PyData×PyData)} {vs:List V},rB H kvs vs→rB H' kvs vs
 | [],_,h=>h
 | (k,d)::ds,vs,h=>by
  obtain ⟨v,r,e,q,t⟩:=h
  exact ⟨v,r,e,RZ.same s q,rB.same s t⟩
end
theorem cG {H:Hp}:∀{ds:List PyData} {vs:List V},g8 H ds vs→vs.length=ds.length
 | [],_,h=>by cases (show _=[] from h); rfl
 | e::ds,vs,h=>by
  obtain ⟨u,r,e1,q,s⟩:=h
  subst e1
  rw [List.length_cons,List.length_cons,cG s]
theorem rR {H:Hp}:∀{ds:List (PyData×PyData)} {vs:List V},rB H ds vs→vs.length=ds.length
 | [],_,h=>by cases (show _=[] from h); rfl
 | e::ds,vs,h=>by
  obtain ⟨u,r,e1,q,s⟩:=h
  subst e1
  rw [List.length_cons,List.length_cons,rR s]
theorem qJ {H:Hp}:∀{ds:List PyData} {vs:List V} {i:Nat} {d:PyData},g8 H ds vs→ds[i]?=some d→∃v,vs[i]?=some v∧RZ H d v
 | [],_,_,_,_,e=>by simp at e
 | x::ds,vs,i,d,h,e=>by
  obtain ⟨u,r,e1,q,s⟩:=h
  subst e1
  cases i with
  | zero=>cases e; exact ⟨u,rfl,q⟩
  | succ i=>
   obtain ⟨v,e2,h2⟩:=qJ (i:=i) s (by simpa using e)
   exact ⟨v,by simpa using e2,h2⟩
theorem rT {H:Hp}:∀{ds es:List PyData} {vs ws:List V},g8 H ds vs→g8 H es ws→g8 H (ds++es) (vs++ws)
 | [],_,_,_,h,g=>by cases (show _=[] from h); exact g
 | d::ds,_,_,_,h,g=>by
  obtain ⟨u,r,e1,q,s⟩:=h
  subst e1
  exact ⟨u,_,rfl,q,rT s g⟩
theorem Dq {H:Hp}:∀{ds:List PyData} {vs:List V} (n:Nat),g8 H ds vs→g8 H (ds.take n) (vs.take n)
 | _,_,0,_=>by rw [List.take_zero,List.take_zero]; rfl
 | [],_,n + 1,h=>by cases (show _=[] from h); rfl
 | d::ds,_,n + 1,h=>by
  obtain ⟨u,r,e1,q,s⟩:=h
  subst e1
  exact ⟨u,_,rfl,q,Dq n s⟩
theorem Dr {H:Hp}:∀{ds:List PyData} {vs:List V} (n:Nat),g8 H ds vs→g8 H (ds.drop n) (vs.drop n)
 | _,_,0,h=>h
 | [],_,n + 1,h=>by cases (show _=[] from h); rfl
 | d::ds,_,n + 1,h=>by
  obtain ⟨u,r,e1,q,s⟩:=h
  subst e1
  exact Dr n s
theorem Iz {H:Hp} {d:PyData} {v:V} (hv:RZ H d v):∀{ds:List PyData} {vs:List V} (i:Nat),g8 H ds vs→g8 H (ds.set i d) (vs.set i v)
 | [],_,_,h=>by cases (show _=[] from h); rfl
 | x::ds,_,i,h=>by
  obtain ⟨u,r,e1,q,s⟩:=h
  subst e1
  cases i with
  | zero=>exact ⟨v,r,rfl,hv,s⟩
  | succ i=>exact ⟨u,_,rfl,q,Iz hv i s⟩
def iw:PyData→Bool
 | .none=>true
 | .bool _=>true
 | .int _=>true
 | .str _=>true
 | _=>false
def toV:PyData→V
 | .none=>.non
 | .bool b=>.bl b
 | .int i=>.int i
 | .str x=>.str x
 | _=>.non
theorem Rk {H:Hp} {d:PyData} {v:V} (f:iw d=true) (h:RZ H d v):v=toV d:=by
 cases d <;> first | exact h | cases f
theorem Rm {H:Hp} {d:PyData} (f:iw d=true):RZ H d (toV d):=by
 cases d <;> first | rfl | cases f
theorem wL {H:Hp}:∀{ds:List PyData} {vs:List V},ds.all iw=true→g8 H ds vs→vs=ds.map toV
 | [],_,_,h=>h
 | d::ds,vs,f,h=>by
  obtain ⟨u,r,e1,q,s⟩:=h
  rw [List.all_cons,Bool.and_eq_true] at f
  rw [e1,Rk f.1 q,wL f.2 s]
  rfl
theorem Ds {H:Hp} (ns:List Int):g8 H (ns.map PyData.int) (ns.map V.int):=by
 induction ns with
 | nil=>rfl
 | cons n r ih=>exact ⟨_,_,rfl,rfl,ih⟩
theorem Dt {H:Hp} (ns:List Str):g8 H (ns.map PyData.str) (ns.map V.str):=by
 induction ns with
 | nil=>rfl
 | cons n r ih=>exact ⟨_,_,rfl,rfl,ih⟩
mutual
def jW:PyData→Bool
 | .list _=>false
 | .tuple ds=>dX ds
 | .dict _=>false
 | _=>true
def dX:List PyData→Bool
 | []=>true
 | d::r=>jW d&&dX r
end
mutual
theorem RZ.jW {H H':Hp} (t:∀a vs,H a=some (.tup vs)→H' a=some (.tup vs)):∀{d:PyData} {v:V},jW d=true→RZ H d v→RZ H' d v
 | .none,_,_,h=>h
 | .bool _,_,_,h=>h
 | .int _,_,_,h=>h
 | .str _,_,_,h=>h
 | .list ds,_,n,h=>nomatch n
 | .tuple ds,_,n,h=>by
  obtain ⟨a,vs,e,q,r⟩:=h
  exact ⟨a,vs,e,t _ _ q,g8.jW t n r⟩
 | .dict _,_,n,_=>nomatch n
theorem g8.jW {H H':Hp} (t:∀a vs,H a=some (.tup vs)→H' a=some (.tup vs)):∀{ds:List PyData} {vs:List V},dX ds=true→g8 H ds vs→g8 H' ds vs
 | [],_,_,h=>h
 | d::ds,vs,n,h=>by
  obtain ⟨v,r,e,q,w⟩:=h
  have n':L2.jW d=true∧dX ds=true:=by rw [dX,Bool.and_eq_true] at n; exact n
  exact ⟨v,r,e,RZ.jW t n'.1 q,g8.jW t n'.2 w⟩
end
mutual
def KD:PyData→Bool
 | .list ds=>j4 ds
 | .tuple ds=>j4 ds
 | .dict _=>false
 | _=>true
def j4:List PyData→Bool
 | []=>true
 | d::r=>KD d&&j4 r
end
mutual
theorem RZ.rx {H:Hp}:∀{d:PyData} {v:V},KD d=true→RZ H d v→RX H d v
 | .none,_,_,h=>h
 | .bool _,_,_,h=>h
 | .int _,_,_,h=>h
 | .str _,_,_,h=>h
 | .list ds,_,n,h=>by
  obtain ⟨a,vs,e,q,r⟩:=h
  exact ⟨a,vs,e,q,g8.rx n r⟩
 | .tuple ds,_,n,h=>by
  obtain ⟨a,vs,e,q,r⟩:=h
  exact ⟨a,vs,e,q,g8.rx n r⟩
 | .dict _,_,n,_=>nomatch n
theorem g8.rx {H:Hp}:∀{ds:List PyData} {vs:List V},j4 ds=true→g8 H ds vs→Dc H ds vs
 | [],_,_,h=>h
 | d::ds,vs,n,h=>by
  obtain ⟨v,r,e,q,t⟩:=h
  have n':KD d=true∧j4 ds=true:=by rw [j4,Bool.and_eq_true] at n; exact n
  exact ⟨v,r,e,RZ.rx n'.1 q,g8.rx n'.2 t⟩
end
inductive Vl where
 | im (d:PyData)
 | ow (d:PyData)
 | ce (n:Nat)
 | sc (ns:List Int)
abbrev En:=List (Option Vl)
abbrev Ce:=List (List Int)
def own1:Option Vl→Option V→List Addr
 | some (.ow _),some (.ref a)=>[a]
 | _,_=>[]
def bJ:En→St→List Addr
 | x::e,v::s=>own1 x v++bJ e s
 | _,_=>[]
theorem di {a:Addr}:∀{env:En} {σ:St},a∈bJ env σ ↔ ∃(i:Nat) (d:PyData),env[i]?=some (some (Vl.ow d))∧σ[i]?=some (some (V.ref a))
 | [],σ=>by
  constructor
  ·intro h; simp [bJ] at h
  ·rintro ⟨i,d,e,_⟩; simp at e
 | x::e,[]=>by
  constructor
  ·intro h; simp [bJ] at h
  ·rintro ⟨i,d,_,e⟩; simp at e
 | x::e,v::s=>by
  rw [bJ,List.mem_append,di (env:=e) (σ:=s)]
  constructor
  ·rintro (h | ⟨i,d,h1,h2⟩)
   ·unfold own1 at h
    split at h
    ·rw [List.mem_singleton] at h
     subst h
     exact ⟨0,_,rfl,rfl⟩
    ·simp at h
   ·exact ⟨i + 1,d,by simpa using h1,by simpa using h2⟩
  ·rintro ⟨i,d,h1,h2⟩
   cases i with
   | zero=>
    simp at h1 h2
    subst h1 h2
    exact .inl (List.mem_singleton.mpr rfl)
   | succ i=>exact .inr ⟨i,d,by simpa using h1,by simpa using h2⟩
theorem rW {a:Addr}:∀{env:En} {σ:St} {i j:Nat} {d e:PyData},(bJ env σ).Nodup→env[i]?=some (some (Vl.ow d))→σ[i]?=some (some (V.ref a))→env[j]?=some (some (Vl.ow e))→σ[j]?=some (some (V.ref a))→i=j
 | [],_,i,_,_,_,_,h,_,_,_=>by simp at h
 | _::_,[],i,_,_,_,_,_,h,_,_=>by simp at h
 | x::en,v::s,i,j,d,e,nd,h1,h2,h3,h4=>by
  rw [bJ,List.nodup_append] at nd
  cases i with
  | zero=>
   cases j with
   | zero=>rfl
   | succ j=>
    simp at h1 h2
    subst h1 h2
    have:a∈bJ en s:=di.mpr ⟨j,e,by simpa using h3,by simpa using h4⟩
    exact absurd rfl (nd.2.2 a (List.mem_singleton.mpr rfl) a this)
  | succ i=>
   cases j with
   | zero=>
    simp at h3 h4
    subst h3 h4
    have:a∈bJ en s:=di.mpr ⟨i,d,by simpa using h1,by simpa using h2⟩
    exact absurd rfl (nd.2.2 a (List.mem_singleton.mpr rfl) a this)
   | succ j=>rw [rW (i:=i) (j:=j) nd.2.1 (by simpa using h1) (by simpa using h2) (by simpa using h3) (by simpa using h4)]
def fz1 (x y:Option Vl):Prop:=y=x∨∃d,x=some (.ow d)∧y=some (.im d)
def Fz:En→En→Prop
 | [],[]=>True
 | x::r,y::t=>fz1 x y∧Fz r t
 | _,_=>False
theorem Fz.refl:∀e:En,Fz e e
 | []=>trivial
 | x::r=>⟨.inl rfl,Fz.refl r⟩
theorem Fz.trans:∀{a b c:En},Fz a b→Fz b c→Fz a c
 | [],[],[],_,_=>trivial
 | x::r,y::t,z::w,h,g=>by
  refine ⟨?_,Fz.trans h.2 g.2⟩
  rcases h.1 with e | ⟨d,e1,e2⟩
  ·rw [←e]; exact g.1
  ·rcases g.1 with e | ⟨d',e3,e4⟩
   ·exact .inr ⟨d,e1,e.trans e2⟩
   ·rw [e2] at e3; cases e3
 | [],[],_::_,_,g=>nomatch g
 | [],_::_,_,h,_=>nomatch h
 | _::_,[],_,h,_=>nomatch h
 | _::_,_::_,[],_,g=>nomatch g
theorem Fz.len:∀{a b:En},Fz a b→b.length=a.length
 | [],[],_=>rfl
 | _::_,_::_,h=>by rw [List.length_cons,List.length_cons,Fz.len h.2]
 | [],_::_,h=>nomatch h
 | _::_,[],h=>nomatch h
theorem Fz.at:∀{a b:En} {i:Nat} {y:Vl},Fz a b→b[i]?=some (some y)→a[i]?=some (some y)∨∃d,a[i]?=some (some (.ow d))∧y=.im d
 | [],[],i,y,_,e=>by simp at e
 | x::r,z::t,0,y,h,e=>by
  simp at e
  rcases h.1 with q | ⟨d,q1,q2⟩
  ·left; rw [←q,e]; rfl
  ·right; rw [e] at q2; cases q2; exact ⟨d,by rw [q1]; rfl,rfl⟩
 | x::r,z::t,i + 1,y,h,e=>by
  simpa using Fz.at (i:=i) h.2 (by simpa using e)
 | [],_::_,_,_,h,_=>nomatch h
 | _::_,[],_,_,h,_=>nomatch h
theorem Rn {x y:Option Vl} (h:fz1 x y) (v:Option V):List.Sublist (own1 y v) (own1 x v):=by
 rcases h with e | ⟨d,e1,e2⟩
 ·rw [e]; exact List.Sublist.refl _
 ·rw [e2]; exact List.nil_sublist _
theorem Fz.own:∀{a b:En} {σ:St},Fz a b→List.Sublist (bJ b σ) (bJ a σ)
 | [],[],σ,_=>by cases σ <;> exact List.Sublist.refl _
 | x::r,y::t,[],h=>List.Sublist.refl _
 | x::r,y::t,v::s,h=>by
  rw [bJ,bJ]
  exact List.Sublist.append (Rn h.1 v) (Fz.own h.2)
 | [],_::_,_,h=>nomatch h
 | _::_,[],_,h=>nomatch h
abbrev aV (Z Θ:List Addr) (env:En) (σ:St):List Addr:=Z++(Θ++bJ env σ)
def pD (E H:Hp) (a:Addr):PyData→Prop
 | .list ds=>∃vs,H a=some (.lst vs)∧g8 E ds vs
 | .dict kvs=>∃vs,T5 H a kvs vs∧rB E kvs vs
 | _=>False
theorem pD.same {E E' H H':Hp} {a:Addr} {d:PyData} (s:bz E E') (h:∀o,H a=some o→H' a=some o) (r:pD E H a d):pD E' H' a d:=by
 cases d <;> first | exact r.elim | skip
 ·obtain ⟨vs,e,q⟩:=r
  exact ⟨vs,h _ e,q.same s⟩
 ·obtain ⟨vs,e,q⟩:=r
  refine ⟨vs,?_,q.same s⟩
  rcases e with ⟨ks,k,e⟩ | ⟨ks,k,e⟩
  ·exact .inl ⟨ks,k,h _ e⟩
  ·exact .inr ⟨ks,k,h _ e⟩
theorem pD.rz {E H:Hp} {a:Addr} {d:PyData} (h:∀o,H a=some o→E a=some o) (r:pD E H a d):RZ E d (.ref a):=by
 cases d <;> first | exact r.elim | skip
 ·obtain ⟨vs,e,q⟩:=r
  exact ⟨a,vs,rfl,h _ e,q⟩
 ·obtain ⟨vs,e,q⟩:=r
  refine ⟨a,vs,rfl,?_,q⟩
  rcases e with ⟨ks,k,e⟩ | ⟨ks,k,e⟩
  ·exact .inl ⟨ks,k,h _ e⟩
  ·exact .inr ⟨ks,k,h _ e⟩
structure cg (Θ:List Addr) (H H':Hp):Prop where
 keep:∀a o,H a=some o→a∉Θ→H' a=some o
 dom:∀a,H a≠none→H' a≠none
theorem cg.refl (Θ:List Addr) (H:Hp):cg Θ H H:=⟨fun _ _ e _=>e,fun _ e=>e⟩
theorem cg.trans {Θ:List Addr} {H H1 H2:Hp} (a:cg Θ H H1) (b:cg Θ H1 H2):cg Θ H H2:=⟨fun c o e n=>b.keep _ _ (a.keep _ _ e n) n,fun c e=>b.dom _ (a.dom _ e)⟩
theorem cg.none {Θ:List Addr} {H H':Hp} (k:cg Θ H H') {a:Addr} (h:H' a=none):H a=none:=by
 cases e:H a with
 | none=>rfl
 | some o=>exact absurd h (k.dom a (by rw [e]; exact Option.some_ne_none _))
theorem cg.of {Θ:List Addr} {H H':Hp} (s:bz H H'):cg Θ H H':=⟨fun a o e _=>s _ _ e,fun a h=>by
 cases e:H a with
 | none=>exact absurd e h
 | some o=>rw [s _ _ e]; exact Option.some_ne_none _⟩
theorem cg.upd {Θ:List Addr} {H:Hp} {p:Addr} {o:HO} (h:H p=Option.none):cg Θ H (L2.upd H p o):=cg.of (bz.upd h)
theorem iM {Z Z' Θ:List Addr} {H H':Hp} (k:cg Θ H H') (ht:∀a∈Θ,a∈Z) (hz:∀a,a∈Z'→a∈Z∨H a=none):bz (er Z H) (er Z' H'):=fun b o h=>by
 unfold er at h ⊢
 split at h
 ·cases h
 ·rename_i n
  rw [if_neg,k.keep _ _ h (fun m=>n (ht b m))]
  intro m
  rcases hz b m with q | q
  ·exact n q
  ·rw [q] at h; cases h
def KH (K:PySem.W.Frag) (E H:Hp) (Θ:List Addr):Vl→V→Prop
 | .im d,v=>RZ E d v
 | .ow d,v=>∃a,v=.ref a∧pD E H a d
 | .ce n,v=>∃a,v=.ref a∧Θ[n]?=some a
 | .sc ns,v=>∃a,v=.ref a∧dW K E a (ns.map V.int)
def NT (o:Option HO):Prop:=∃u,o=some u∧∀vs,u≠.tup vs
theorem NT.ne {o:Option HO} (h:NT o):o≠none:=by
 obtain ⟨u,rfl,_⟩:=h
 exact Option.some_ne_none _
theorem pD.nt {E H:Hp} {a:Addr} {d:PyData} (r:pD E H a d):NT (H a):=by
 cases d <;> first | exact r.elim | skip
 ·obtain ⟨vs,e,q⟩:=r
  exact ⟨_,e,fun _ z=>nomatch z⟩
 ·obtain ⟨vs,e,q⟩:=r
  rcases e with ⟨ks,k,e⟩ | ⟨ks,k,e⟩
  ·exact ⟨_,e,fun _ z=>nomatch z⟩
  ·exact ⟨_,e,fun _ z=>nomatch z⟩
theorem pD.there {E H:Hp} {a:Addr} {d:PyData} (r:pD E H a d):H a≠none:=r.nt.ne
structure jj (Θ:List Addr) (C:Ce) (H:Hp):Prop where
 len:C.length=Θ.length
 at_:∀(n:Nat) (a:Addr) (ns:List Int),Θ[n]?=some a→C[n]?=some ns→H a=some (.lst (ns.map V.int))
structure Sm (K:PySem.W.Frag) (Z Θ:List Addr) (env:En) (C:Ce) (σ:St) (H:Hp):Prop where
 len:σ.length=env.length
 nd:(aV Z Θ env σ).Nodup
 dom:∀a∈Z,NT (H a)
 slot:∀(i:Nat) (x:Vl),env[i]?=some (some x)→∃v,σ[i]?=some (some v)∧KH K (er (aV Z Θ env σ) H) H Θ x v
 cell:jj Θ C H
theorem jj.dom {Θ:List Addr} {C:Ce} {H:Hp} (c:jj Θ C H):∀a∈Θ,NT (H a):=fun a m=>by
 obtain ⟨n,hn,e⟩:=List.getElem_of_mem m
 have e1:Θ[n]?=some a:=by rw [List.getElem?_eq_getElem hn,e]
 have h2:n < C.length:=by rw [c.len]; exact hn
 exact ⟨_,c.at_ n a C[n] e1 (List.getElem?_eq_getElem h2),fun _ z=>nomatch z⟩
section
variable {K:PySem.W.Frag} {Z Θ:List Addr} {env env':En} {C C':Ce} {σ:St} {H H':Hp}
theorem Sm.Zd (S:Sm K Z Θ env C σ H):∀a∈aV Z Θ env σ,NT (H a):=fun a m=>by
 rcases List.mem_append.mp m with m | m
 ·exact S.dom a m
 ·rcases List.mem_append.mp m with m | m
  ·exact S.cell.dom a m
  ·obtain ⟨i,d,e1,e2⟩:=di.mp m
   obtain ⟨v,e3,b,e4,r⟩:=S.slot i _ e1
   rw [e2] at e3
   cases e3
   cases e4
   exact r.nt
theorem Sm.Du (S:Sm K Z Θ env C σ H):∀a∈aV Z Θ env σ,H a≠none:=fun a m=>(S.Zd a m).ne
theorem Sm.KJ (S:Sm K Z Θ env C σ H):∀a∈Θ,a∈aV Z Θ env σ:=fun a m=>List.mem_append_right _ (List.mem_append_left _ m)
theorem KH.same {E E':Hp} {x:Vl} {v:V} (s:bz E E') (h:∀d a,x=.ow d→v=.ref a→∀o,H a=some o→H' a=some o) (r:KH K E H Θ x v):KH K E' H' Θ x v:=by
 cases x with
 | im d=>exact RZ.same s r
 | ow d=>obtain ⟨a,e,q⟩:=r; exact ⟨a,e,q.same s (h d a rfl e)⟩
 | ce n=>exact r
 | sc ns=>obtain ⟨a,e,q⟩:=r; exact ⟨a,e,s.seq q⟩
theorem Sm.ie (S:Sm K Z Θ env C σ H) {a:Addr} (m:a∈bJ env σ):a∉Z∧a∉Θ:=by
 have h:=S.nd
 rw [List.nodup_append] at h
 obtain ⟨_,h2,h3⟩:=h
 rw [List.nodup_append] at h2
 refine ⟨fun z=>h3 a z a (List.mem_append_right _ m) rfl,fun z=>h2.2.2 a z a m rfl⟩
theorem Sm.go (S:Sm K Z Θ env C σ H) (k:cg Θ H H') (c:jj Θ C' H'):Sm K Z Θ env C' σ H' where
 len:=S.len
 nd:=S.nd
 dom:=fun a m=>by
  obtain ⟨u,e,n⟩:=S.dom a m
  have h:=S.nd
  rw [List.nodup_append] at h
  exact ⟨u,k.keep _ _ e fun z=>h.2.2 a m a (List.mem_append_left _ z) rfl,n⟩
 slot:=fun i x e=>by
  obtain ⟨v,e1,r⟩:=S.slot i x e
  refine ⟨v,e1,r.same (iM k S.KJ fun a m=>.inl m) fun d a ex ev o ho=>k.keep _ _ ho ?_⟩
  subst ex ev
  exact (S.ie (di.mpr ⟨i,d,e,e1⟩)).2
 cell:=c
theorem Sm.fz (S:Sm K Z Θ env C σ H) (f:Fz env env'):Sm K Z Θ env' C σ H:=by
 have sub:List.Sublist (aV Z Θ env' σ) (aV Z Θ env σ):=List.Sublist.append (List.Sublist.refl _) (List.Sublist.append (List.Sublist.refl _) f.own)
 have sm:bz (er (aV Z Θ env σ) H) (er (aV Z Θ env' σ) H):=iM (cg.refl [] H) (fun _ m=>nomatch m) fun a m=>.inl (sub.subset m)
 refine ⟨by rw [f.len]; exact S.len,sub.nodup S.nd,S.dom,fun i x e0=>?_,S.cell⟩
 rcases f.at e0 with e | ⟨d,e,ex⟩
 ·obtain ⟨v,e1,r⟩:=S.slot i x e
  exact ⟨v,e1,r.same sm fun _ _ _ _ _ ho=>ho⟩
 ·subst ex
  obtain ⟨v,e1,a,ev,r⟩:=S.slot i _ e
  subst ev
  refine ⟨_,e1,pD.rz (H:=H) (fun o ho=>?_) (r.same sm fun _ ho=>ho)⟩
  unfold er
  rw [if_neg]
  ·exact ho
  ·intro m
   have hm:a∈bJ env σ:=di.mpr ⟨i,d,e,e1⟩
   rcases List.mem_append.mp m with m | m
   ·exact (S.ie hm).1 m
   ·rcases List.mem_append.mp m with m | m
    ·exact (S.ie hm).2 m
    ·obtain ⟨j,d',e3,e4⟩:=di.mp m
     have nd:=S.nd
     rw [List.nodup_append] at nd
     have nd2:=nd.2.1
     rw [List.nodup_append] at nd2
     rcases f.at e3 with e5 | ⟨_,_,e5⟩
     ·have:=rW nd2.2.1 e e1 e5 e4
      subst this
      rw [e0] at e3
      cases e3
     ·cases e5
end
end L2
set_option maxHeartbeats 4000000
namespace L2
open PySem PySem.Spec PyProof.Rows PySem.W
section
variable {K:PySem.W.Frag} {Z Θ:List Addr} {env env':En} {C C':Ce} {σ:St} {H H':Hp} {a p:Addr}
theorem Sm.pop (S:Sm K (a::Z) Θ env C σ H):Sm K Z Θ env C σ H:=by
 have sm:bz (er (aV (a::Z) Θ env σ) H) (er (aV Z Θ env σ) H):=iM (cg.refl [] H) (fun _ m=>nomatch m) fun b m=>.inl (List.mem_cons_of_mem _ m)
 exact ⟨S.len,(List.nodup_cons.mp S.nd).2,fun b m=>S.dom b (List.mem_cons_of_mem _ m),fun i x e=>let ⟨v,e1,r⟩:=S.slot i x e; ⟨v,e1,r.same sm fun _ _ _ _ _ h=>h⟩,S.cell⟩
theorem Sm.push (S:Sm K Z Θ env C σ H) (hp:H p=none) (o:HO) (ho:∀vs,o≠.tup vs):Sm K (p::Z) Θ env C σ (upd H p o):=by
 have k:cg Θ H (upd H p o):=cg.upd hp
 have sm:bz (er (aV Z Θ env σ) H) (er (aV (p::Z) Θ env σ) (upd H p o)):=iM k S.KJ fun b m=>by
  rcases List.mem_cons.mp m with rfl | m
  ·exact .inr hp
  ·exact .inl m
 have c:jj Θ C (upd H p o):=⟨S.cell.len,fun n b ns e1 e2=>by
  have:=S.cell.at_ n b ns e1 e2
  rw [aY (cu this hp)]
  exact this⟩
 refine ⟨S.len,List.nodup_cons.mpr ⟨fun m=>S.Du p m hp,S.nd⟩,fun b m=>?_,fun i x e=>?_,c⟩
 ·rcases List.mem_cons.mp m with rfl | m
  ·exact ⟨o,aX,ho⟩
  ·obtain ⟨u,e,n⟩:=S.dom b m
   exact ⟨u,by rw [aY (cu e hp)]; exact e,n⟩
 ·obtain ⟨v,e1,r⟩:=S.slot i x e
  refine ⟨v,e1,r.same sm fun d b ex ev o' ho=>?_⟩
  rw [aY (cu ho hp)]
  exact ho
theorem Sm.wI (S:Sm K Z Θ env C σ H) (s:bz H H'):Sm K Z Θ env C σ H':=
 S.go (cg.of s) ⟨S.cell.len,fun n b ns e1 e2=>s _ _ (S.cell.at_ n b ns e1 e2)⟩
def Res (K:PySem.W.Frag) (Z Θ:List Addr) (env:En) (C:Ce) (σ:St) (H H':Hp):Vl→V→Prop
 | .im d,v=>Sm K Z Θ env C σ H'∧RZ (er (aV Z Θ env σ) H') d v
 | .ow d,v=>∃a,v=.ref a∧H a=none∧Sm K (a::Z) Θ env C σ H'∧pD (er (aV (a::Z) Θ env σ) H') H' a d
 | .ce n,v=>Sm K Z Θ env C σ H'∧∃a,v=.ref a∧Θ[n]?=some a
 | .sc ns,v=>Sm K Z Θ env C σ H'∧∃a,v=.ref a∧dW K (er (aV Z Θ env σ) H') a (ns.map V.int)
def VN (E T:Hp):PyData→V→Prop
 | .list ds,v=>∃a vs,v=.ref a∧T a=some (.lst vs)∧g8 E ds vs
 | .dict kvs,v=>∃a vs,v=.ref a∧T5 T a kvs vs∧rB E kvs vs
 | d,v=>RZ E d v
theorem VN.same {E E' T T':Hp} {d:PyData} {v:V} (s:bz E E') (t:bz T T') (h:VN E T d v):VN E' T' d v:=by
 cases d <;> first | exact RZ.same s h | skip
 ·obtain ⟨a,vs,e,q,r⟩:=h
  exact ⟨a,vs,e,t _ _ q,r.same s⟩
 ·obtain ⟨a,vs,e,q,r⟩:=h
  exact ⟨a,vs,e,q.same t,r.same s⟩
theorem RZ.bor {E T:Hp} {d:PyData} {v:V} (t:bz E T) (h:RZ E d v):VN E T d v:=by
 cases d <;> first | exact h | skip
 ·obtain ⟨a,vs,e,q,r⟩:=h
  exact ⟨a,vs,e,t _ _ q,r⟩
 ·obtain ⟨a,vs,e,q,r⟩:=h
  exact ⟨a,vs,e,q.same t,r⟩
abbrev gH (Z Θ:List Addr) (env:En) (σ:St) (H:Hp) (d:PyData) (v:V):Prop:=VN (er (aV Z Θ env σ) H) (er Θ H) d v
theorem lZ {Z Z':List Addr} {H:Hp} (h:∀a,a∈Z'→a∈Z):bz (er Z H) (er Z' H):=iM (cg.refl [] H) (fun _ m=>nomatch m) fun b m=>.inl (h b m)
theorem T6:bz (er (aV Z Θ env σ) H) (er Θ H):=lZ fun a m=>List.mem_append_right _ (List.mem_append_left _ m)
theorem Fz.sub (f:Fz env env'):∀a,a∈aV Z Θ env' σ→a∈aV Z Θ env σ:=fun a m=>
 (List.Sublist.append (List.Sublist.refl _) (List.Sublist.append (List.Sublist.refl _) f.own)).subset m
theorem Nz (S:Sm K Z Θ env C σ H) (k:cg Θ H H') (f:Fz env env'):bz (er (aV Z Θ env σ) H) (er (aV Z Θ env' σ) H'):=iM k S.KJ fun a m=>.inl (f.sub a m)
theorem GF (k:cg Θ H H'):bz (er Θ H) (er Θ H'):=iM k (fun _ m=>m) fun a m=>.inl m
theorem gH.go {d:PyData} {v:V} (h:gH Z Θ env σ H d v) (S:Sm K Z Θ env C σ H) (k:cg Θ H H') (f:Fz env env'):gH Z Θ env' σ H' d v:=VN.same (Nz S k f) (GF k) h
def dat:Vl→Option PyData
 | .im d=>some d
 | .ow d=>some d
 | .ce _=>none
 | .sc _=>none
theorem Res.sm {r:Vl} {v:V} (h:Res K Z Θ env C σ H H' r v):Sm K Z Θ env C σ H':=by
 cases r with
 | im d=>exact h.1
 | ow d=>obtain ⟨a,_,_,S,_⟩:=h; exact S.pop
 | ce n=>exact h.1
 | sc ns=>exact h.1
theorem Res.bor {r:Vl} {v:V} {d:PyData} (h:Res K Z Θ env C σ H H' r v) (e:dat r=some d):gH Z Θ env σ H' d v:=by
 cases r with
 | im d'=>cases e; exact RZ.bor T6 h.2
 | ow d'=>
  cases e
  obtain ⟨a,rfl,_,S,r⟩:=h
  have na:a∉Θ:=fun m=>(List.nodup_cons.mp S.nd).1 (List.mem_append_right _ (List.mem_append_left _ m))
  have sm:bz (er (aV (a::Z) Θ env σ) H') (er (aV Z Θ env σ) H'):=lZ fun b m=>List.mem_cons_of_mem _ m
  have ha:∀o,H' a=some o→er Θ H' a=some o:=fun o ho=>by unfold er; rw [if_neg na]; exact ho
  cases d <;> first | exact r.elim | skip
  ·obtain ⟨vs,e,q⟩:=r
   exact ⟨a,vs,rfl,ha _ e,q.same sm⟩
  ·obtain ⟨vs,e,q⟩:=r
   refine ⟨a,vs,rfl,?_,q.same sm⟩
   rcases e with ⟨ks,k,e⟩ | ⟨ks,k,e⟩
   ·exact .inl ⟨ks,k,ha _ e⟩
   ·exact .inr ⟨ks,k,ha _ e⟩
 | ce n=>cases e
 | sc ns=>cases e
def still:Vl→Vl
 | .ow d=>.im d
 | r=>r
theorem Res.still {r:Vl} {v:V} (h:Res K Z Θ env C σ H H' r v):Res K Z Θ env C σ H H' (still r) v:=by
 cases r with
 | ow d=>
  obtain ⟨a,rfl,hn,S,r⟩:=h
  refine ⟨S.pop,pD.rz (H:=H') (fun o ho=>?_) (r.same (lZ fun b m=>List.mem_cons_of_mem _ m) fun _ h=>h)⟩
  unfold er
  rw [if_neg (show ¬a∈aV Z Θ env σ from (List.nodup_cons.mp S.nd).1)]
  exact ho
 | im d=>exact h
 | ce n=>exact h
 | sc ns=>exact h
theorem Res.from {H0:Hp} {r:Vl} {v:V} (h:Res K Z Θ env C σ H H' r v) (k:cg Θ H0 H):Res K Z Θ env C σ H0 H' r v:=by
 cases r with
 | ow d=>
  obtain ⟨a,e,hn,S,r⟩:=h
  exact ⟨a,e,k.none hn,S,r⟩
 | im d=>exact h
 | ce n=>exact h
 | sc ns=>exact h
theorem wM (S:Sm K Z Θ env C σ H) {a:Addr} {vs:List V} (h:H a=some (.tup vs)):er (aV Z Θ env σ) H a=some (.tup vs):=by
 unfold er
 rw [if_neg]
 ·exact h
 ·intro m
  obtain ⟨u,e,n⟩:=S.Zd a m
  rw [h] at e
  exact n vs (Option.some.inj e).symm
def rst (r:Vl) (env env':En):En:=match r with
 | .im d=>if jW d then env else env'
 | _=>env'
theorem Res.rst {r:Vl} {v:V} (S:Sm K Z Θ env C σ H) (k:cg Θ H H') (h:Res K Z Θ env' C' σ H H' r v):Res K Z Θ (rst r env env') C' σ H H' r v:=by
 cases r with
 | im d=>
  by_cases f:L2.jW d=true
  ·have:L2.rst (.im d) env env'=env:=if_pos f
   rw [this]
   have S':=S.go k h.1.cell
   exact ⟨S',h.2.jW (fun a vs e=>wM S' (cj e)) f⟩
  ·have:L2.rst (.im d) env env'=env':=if_neg f
   rw [this]
   exact h
 | ow d=>exact h
 | ce n=>exact h
 | sc ns=>exact h
theorem Fz.rst (r:Vl) (f:Fz env env'):Fz env (rst r env env'):=by
 cases r with
 | im d=>
  show Fz env (if L2.jW d then env else env')
  split
  ·exact Fz.refl _
  ·exact f
 | ow d=>exact f
 | ce n=>exact f
 | sc ns=>exact f
theorem bL {d:PyData} (S:Sm K Z Θ env C σ H) (f:iw d=true) {v:V} (hv:v=toV d):Res K Z Θ env C σ H H (.im d) v:=⟨S,by rw [hv]; exact Rm f⟩
theorem gb {ds:List PyData} {vs:List V} (S:Sm K Z Θ env C σ H) (r:g8 (er (aV Z Θ env σ) H) ds vs) (hp:H p=none):Res K Z Θ env C σ H (upd H p (.lst vs)) (.ow (.list ds)) (.ref p):=by
 refine ⟨p,rfl,hp,S.push hp _ (fun _ z=>nomatch z),vs,aX,r.same (iM (cg.upd (Θ:=Θ) hp) S.KJ fun b m=>?_)⟩
 rcases List.mem_cons.mp m with rfl | m
 ·exact .inr hp
 ·exact .inl m
theorem Ro {kvs:List (PyData×PyData)} {vs:List V} {o:HO} (S:Sm K Z Θ env C σ H) (ho:∀vs,o≠.tup vs) (d:T5 (upd H p o) p kvs vs) (r:rB (er (aV Z Θ env σ) H) kvs vs) (hp:H p=none):Res K Z Θ env C σ H (upd H p o) (.ow (.dict kvs)) (.ref p):=by
 refine ⟨p,rfl,hp,S.push hp _ ho,vs,d,r.same (iM (cg.upd (Θ:=Θ) hp) S.KJ fun b m=>?_)⟩
 rcases List.mem_cons.mp m with rfl | m
 ·exact .inr hp
 ·exact .inl m
theorem vz {ds:List PyData} {vs:List V} (S:Sm K Z Θ env C σ H) (r:g8 (er (aV Z Θ env σ) H) ds vs) (hp:H p=none):Res K Z Θ env C σ H (upd H p (.tup vs)) (.im (.tuple ds)) (.ref p):=by
 have S':=S.wI (bz.upd (o:=.tup vs) hp)
 refine ⟨S',p,vs,rfl,?_,r.same (iM (cg.upd (Θ:=Θ) hp) S.KJ fun b m=>.inl m)⟩
 unfold er
 rw [if_neg (fun m=>S.Du p m hp),aX]
end
abbrev FE:=En→Ce→Option (Vl×En×Ce)
abbrev FB:=En→Ce→Option (PyData×En×Ce)
abbrev FT:=En→Ce→Option (Bool×Ce)
abbrev Qn:=En→Ce→Option (List PyData×En×Ce)
abbrev FA:=En→Ce→Option (List Vl×En×Ce)
def tE (K:PySem.W.Frag) (f:FE):TE:=fun σ H Q=>∃Z Θ env C r env' C',Sm K Z Θ env C σ H∧f env C=some (r,env',C')∧
 ∀v H',cg Θ H H'→Fz env env'→Res K Z Θ env' C' σ H H' r v→Q v H'
def nG (K:PySem.W.Frag) (f:FB):TE:=fun σ H Q=>∃Z Θ env C d env' C',Sm K Z Θ env C σ H∧f env C=some (d,env',C')∧
 ∀v H',cg Θ H H'→Fz env env'→Sm K Z Θ env' C' σ H'→gH Z Θ env' σ H' d v→Q v H'
def pY (K:PySem.W.Frag) (f:FT):TT:=fun σ H Q=>∃Z Θ env C b C',Sm K Z Θ env C σ H∧f env C=some (b,C')∧
 ∀H',cg Θ H H'→Sm K Z Θ env C' σ H'→Q b H'
inductive GJ (E T:Hp):List PyData→List V→Prop
 | nil:GJ E T [] []
 | cons {d:PyData} {v:V} {ds:List PyData} {vs:List V}:VN E T d v→GJ E T ds vs→GJ E T (d::ds) (v::vs)
abbrev IK (Z Θ:List Addr) (env:En) (σ:St) (H:Hp) (ds:List PyData) (vs:List V):Prop:=GJ (er (aV Z Θ env σ) H) (er Θ H) ds vs
def VP (K:PySem.W.Frag) (f:Qn):TA:=fun σ H Q=>∃Z Θ env C ds env' C',Sm K Z Θ env C σ H∧f env C=some (ds,env',C')∧
 ∀vs H',cg Θ H H'→Fz env env'→Sm K Z Θ env' C' σ H'→IK Z Θ env' σ H' ds vs→Q vs H'
theorem PE.weak {X:Cx} {e:Expr} {t t':TE} (h:PE X e t) (w:∀σ H Q,t' σ H Q→t σ H Q):PE X e t':=fun pins s σ H Q I q=>h pins s σ H Q I (w σ H Q q)
theorem PT.weak {X:Cx} {e:Expr} {t t':TT} (h:PT X e t) (w:∀σ H Q,t' σ H Q→t σ H Q):PT X e t':=fun pins s σ H Q I q=>h pins s σ H Q I (w σ H Q q)
theorem PA.weak {X:Cx} {e:List Expr} {t t':TA} (h:PA X e t) (w:∀σ H Q,t' σ H Q→t σ H Q):PA X e t':=fun p pins s σ H Q I q=>h p pins s σ H Q I (w σ H Q q)
theorem PS.weak {X:Cx} {e:Stmt} {t t':TS} (h:PS X e t) (w:∀D σ H,t' D σ H→t D σ H):PS X e t':=fun pins s σ H D I q=>h pins s σ H D I (w D σ H q)
theorem uW.weak {X:Cx} {e:List Stmt} {t t':TS} (h:uW X e t) (w:∀D σ H,t' D σ H→t D σ H):uW X e t':=fun pins s σ H D I q=>h pins s σ H D I (w D σ H q)
theorem PW.weak {X:Cx} {e:Expr} {t t':TT} (h:PW X e t) (w:∀σ H Q,t' σ H Q→t σ H Q):PW X e t':=fun wh pins s σ H Q I q=>h wh pins s σ H Q I (w σ H Q q)
def aH (i:Nat):FE:=fun env C=>match env[i]? with
 | some (some (.im d))=>some (.im d,env,C)
 | some (some (.ow d))=>some (.im d,env.set i (some (.im d)),C)
 | some (some (.ce n))=>some (.ce n,env,C)
 | some (some (.sc ns))=>some (.sc ns,env,C)
 | _=>none
def au (i:Nat):FB:=fun env C=>match env[i]? with
 | some (some x)=>(dat x).map fun d=>(d,env,C)
 | _=>none
def az (d:PyData):FE:=fun env C=>some (.im d,env,C)
def ao (f:FE):FB:=fun env C=>match f env C with
 | some (r,e',C')=>(dat r).map fun d=>(d,e',C')
 | none=>none
theorem NB:∀{env:En} {i:Nat} {d:PyData},env[i]?=some (some (.ow d))→Fz env (env.set i (some (.im d)))
 | [],i,d,e=>by simp at e
 | x::r,0,d,e=>by simp at e; subst e; exact ⟨.inr ⟨d,rfl,rfl⟩,Fz.refl r⟩
 | x::r,i + 1,d,e=>⟨.inl rfl,NB (by simpa using e)⟩
section
variable {X:Cx} {e:Expr} {i:Nat}
theorem aK (h:PE X e (yH i)):PE X e (tE X.K (aH i)):=h.weak fun σ H Q ⟨Z,Θ,env,C,r,env',C',S,hf,q⟩=>by
 unfold aH at hf
 split at hf
 all_goals first | (rename_i d hd; cases hf) | cases hf
 ·obtain ⟨v,e1,r⟩:=S.slot i _ hd
  exact ⟨v,e1,q v H (cg.refl _ _) (Fz.refl _) ⟨S,r⟩⟩
 ·have f:=NB hd
  obtain ⟨v,e1,r⟩:=S.slot i _ hd
  have S':=S.fz f
  refine ⟨v,e1,q v H (cg.refl _ _) f ⟨S',?_⟩⟩
  have hi:i < env.length:=by
   have:=List.getElem?_eq_some_iff.mp hd
   exact this.1
  obtain ⟨v',e2,r'⟩:=S'.slot i (.im d) (by rw [List.getElem?_set,if_pos rfl,if_pos hi])
  rw [e1] at e2
  cases e2
  exact r'
 ·obtain ⟨v,e1,r⟩:=S.slot i _ hd
  exact ⟨v,e1,q v H (cg.refl _ _) (Fz.refl _) ⟨S,r⟩⟩
 ·obtain ⟨v,e1,r⟩:=S.slot i _ hd
  exact ⟨v,e1,q v H (cg.refl _ _) (Fz.refl _) ⟨S,r⟩⟩
theorem aB (h:PE X e (yH i)):PE X e (nG X.K (au i)):=h.weak fun σ H Q ⟨Z,Θ,env,C,d,env',C',S,hf,q⟩=>by
 unfold au at hf
 split at hf
 ·rename_i x hx
  obtain ⟨v,e1,r⟩:=S.slot i _ hx
  have ex:dat x=some d∧env=env'∧C=C':=by
   cases hd:dat x with
   | none=>rw [hd] at hf; cases hf
   | some d'=>rw [hd] at hf; cases hf; exact ⟨rfl,rfl,rfl⟩
  obtain ⟨ex,rfl,rfl⟩:=ex
  refine ⟨v,e1,q v H (cg.refl _ _) (Fz.refl _) S ?_⟩
  cases x with
  | im d'=>cases ex; exact RZ.bor T6 r
  | ow d'=>
   cases ex
   obtain ⟨a,rfl,r⟩:=r
   have na:=(S.ie (di.mpr ⟨i,_,hx,e1⟩)).2
   have ha:∀o,H a=some o→er Θ H a=some o:=fun o ho=>by unfold er; rw [if_neg na]; exact ho
   cases d <;> first | exact r.elim | skip
   ·obtain ⟨vs,e,q⟩:=r
    exact ⟨a,vs,rfl,ha _ e,q⟩
   ·obtain ⟨vs,e,q⟩:=r
    refine ⟨a,vs,rfl,?_,q⟩
    rcases e with ⟨ks,k,e⟩ | ⟨ks,k,e⟩
    ·exact .inl ⟨ks,k,ha _ e⟩
    ·exact .inr ⟨ks,k,ha _ e⟩
  | ce n=>cases ex
  | sc ns=>cases ex
 ·cases hf
theorem aA {d:PyData} {v:V} (h:PE X e (tC v)) (f:iw d=true:=by rfl) (hv:v=toV d:=by rfl):PE X e (tE X.K (az d)):=h.weak fun σ H Q ⟨Z,Θ,env,C,r,env',C',S,hf,q⟩=>by
 cases hf
 exact q v H (cg.refl _ _) (Fz.refl _) (bL S f hv)
theorem aq {f:FE} (h:PE X e (tE X.K f)):PE X e (nG X.K (ao f)):=h.weak fun σ H Q ⟨Z,Θ,env,C,d,env',C',S,hf,q⟩=>by
 unfold ao at hf
 split at hf
 ·rename_i r e' C1 hr
  cases hd:dat r with
  | none=>rw [hd] at hf; cases hf
  | some d'=>
   rw [hd] at hf
   cases hf
   exact ⟨Z,Θ,env,C,r,env',C',S,hr,fun v H' k f R=>q v H' k f R.sm (R.bor hd)⟩
 ·cases hf
end
end L2
set_option maxHeartbeats 4000000
namespace L2
open PySem PySem.Spec PyProof.Rows PySem.W
def jA:Nat:=1000000
theorem gk {n:Nat} (h:n≤jA):n≤sizeLine:=by rw [sizeLine_eq]; unfold jA at h; omega
def qK (K:PySem.W.Frag) (r:R2) (op:PyData→PyData→Option Vl):Prop:=
 ∀(Z Θ:List Addr) (env:En) (C:Ce) (σ:St) (H:Hp) (x y:V) (dx dy:PyData) (res:Vl),Sm K Z Θ env C σ H→gH Z Θ env σ H dx x→gH Z Θ env σ H dy y→op dx dy=some res→
  ∀Q:VK,(∀v H',cg Θ H H'→Res K Z Θ env C σ H H' res v→Q v H')→r x y H Q
def aC (op:PyData→PyData→Option Vl) (fa fb:FB):FE:=fun env C=>match fa env C with
 | some (x,e1,C1)=>match fb e1 C1 with
  | some (y,e2,C2)=>match op x y with
   | some r=>some (r,rst r env e2,C2)
   | none=>none
  | none=>none
 | none=>none
theorem rY {K:PySem.W.Frag} {r:R2} {op:PyData→PyData→Option Vl} (L:qK K r op) {fa fb:FB}:∀σ H Q,tE K (aC op fa fb) σ H Q→Xj r (nG K fa) (nG K fb) σ H Q:=by
 rintro σ H Q ⟨Z,Θ,env,C,res,env',C',S,hf,q⟩
 unfold aC at hf
 split at hf
 ·rename_i x e1 C1 h1
  split at hf
  ·rename_i y e2 C2 h2
   split at hf
   ·rename_i r0 h3
    cases hf
    refine ⟨Z,Θ,env,C,x,e1,C1,S,h1,fun v H1 k1 f1 S1 b1=>⟨Z,Θ,e1,C1,y,e2,C',S1,h2,fun u H2 k2 f2 S2 b2=>?_⟩⟩
    refine L Z Θ e2 C' σ H2 v u x y res S2 (b1.go S1 k2 f2) b2 h3 Q fun z H3 k3 R=>?_
    have k:=(k1.trans k2).trans k3
    exact q z H3 k ((f1.trans f2).rst res) ((R.from (k1.trans k2)).rst S k)
   ·cases hf
  ·cases hf
 ·cases hf
section
variable {X:Cx} {a b:Expr} {fa fb:FB} {pos:Pos} {r:R2} {op:PyData→PyData→Option Vl}
theorem bf {o:Operator} (ho:jQ X (binaryOp o) r) (L:qK X.K r op) (ha:PE X a (nG X.K fa)) (hb:PE X b (nG X.K fb)):PE X (.BinOp a o b pos) (tE X.K (aC op fa fb)):=(Xk ho ha hb).weak (rY L)
theorem ue {o:CmpOp} (ho:jQ X (compareOp o) r) (L:qK X.K r op) (ha:PE X a (nG X.K fa)) (hb:PE X b (nG X.K fb)) (hm:behindInMarks o b=false):PE X (.Compare a [o] [b] pos) (tE X.K (aC op fa fb)):=(QF ho ha hb hm).weak (rY L)
theorem bV (ho:Lj X r) (L:qK X.K r op) (ha:PE X a (nG X.K fa)) (hb:PE X b (nG X.K fb)) (hs:vh b):PE X (.Subscript a b pos) (tE X.K (aC op fa fb)):=(Mr ho ha hb hs).weak (rY L)
end
theorem qK.or {K:PySem.W.Frag} {r r':R2} {op op':PyData→PyData→Option Vl} (h:qK K r op) (h':qK K r' op'):qK K (fun x y H Q=>r x y H Q∨r' x y H Q) (fun x y=>match op x y with | some z=>some z | none=>op' x y):=by
 intro Z Θ env C σ H x y dx dy res S bx mU e Q q
 cases h1:op dx dy with
 | some z=>
  simp only [h1] at e
  cases e
  exact .inl (h Z Θ env C σ H x y dx dy _ S bx mU h1 Q q)
 | none=>
  simp only [h1] at e
  exact .inr (h' Z Θ env C σ H x y dx dy res S bx mU e Q q)
section
variable {K:PySem.W.Frag} {Z Θ:List Addr} {env:En} {C:Ce} {σ:St} {H:Hp} {x:V}
theorem gH.int {i:Int} (h:gH Z Θ env σ H (.int i) x):x=.int i:=h
theorem gH.str {i:Str} (h:gH Z Θ env σ H (.str i) x):x=.str i:=h
theorem gH.tup {ds:List PyData} (h:gH Z Θ env σ H (.tuple ds) x):∃a vs,x=.ref a∧H a=some (.tup vs)∧g8 (er (aV Z Θ env σ) H) ds vs:=by
 obtain ⟨a,vs,e,q,r⟩:=h
 exact ⟨a,vs,e,cj q,r⟩
theorem gH.lst {ds:List PyData} (h:gH Z Θ env σ H (.list ds) x):∃a vs,x=.ref a∧H a=some (.lst vs)∧g8 (er (aV Z Θ env σ) H) ds vs:=by
 obtain ⟨a,vs,e,q,r⟩:=h
 exact ⟨a,vs,e,cj q,r⟩
theorem gH.dct {kvs:List (PyData×PyData)} (h:gH Z Θ env σ H (.dict kvs) x):∃a vs,x=.ref a∧T5 H a kvs vs∧rB (er (aV Z Θ env σ) H) kvs vs:=by
 obtain ⟨a,vs,e,q,r⟩:=h
 exact ⟨a,vs,e,q.same (wB _ _),r⟩
theorem gH.flat {d:PyData} (f:iw d=true) (h:gH Z Θ env σ H d x):x=toV d:=by
 cases d <;> first | exact h | cases f
theorem gH.rx {d:PyData} (n:KD d=true) (h:gH Z Θ env σ H d x):RX H d x:=by
 cases d <;> first | exact h | skip
 ·obtain ⟨a,vs,e,q,r⟩:=h
  exact ⟨a,vs,e,cj q,(r.same (wB _ _)).rx n⟩
 ·obtain ⟨a,vs,e,q,r⟩:=h
  exact ⟨a,vs,e,cj q,(r.same (wB _ _)).rx n⟩
 ·cases n
end
section
variable {X:Cx}
def aQ:PyData→PyData→Option Vl
 | .int i,.int j=>some (.im (.int (i + j)))
 | .str x,.str y=>if x.length + y.length≤jA then some (.im (.str (x++y))) else none
 | .list xs,.list ys=>if xs.length + ys.length≤jA then some (.ow (.list (xs++ys))) else none
 | .tuple xs,.tuple ys=>if xs.isEmpty then some (.im (.tuple ys)) else if xs.length + ys.length≤jA then some (.im (.tuple (xs++ys))) else none
 | _,_=>none
def T7 (K:PySem.W.Frag):R2:=fun x y H Q=>∃a b ys,x=.ref a∧y=.ref b∧jz K H a []∧jz K H b ys∧Q (.ref b) H
theorem Rp {X:Cx}:jQ X (binaryOp .Add) (T7 X.K):=by
 intro pins s σ H x y v u Q I rx ry h
 obtain ⟨a,b,ys,rfl,rfl,ha,hb,q⟩:=h
 cases rx
 cases ry
 obtain ⟨its,r1,p1,_⟩:=I.tuple ha
 obtain ⟨its2,r2,p2,_⟩:=I.tuple hb
 obtain ⟨⟨cls,dd,data,sl⟩,ho,hc,n,hd⟩:=id p1
 obtain ⟨⟨cls2,dd2,data2,sl2⟩,ho2,hc2,n2,hd2⟩:=id p2
 simp only at hc hd hc2 hd2
 subst hc hd hc2 hd2
 exact concat_meets ⟨_,ho,rfl⟩ ⟨_,ho2,rfl⟩ noFill_tuple_add seq_tuple_add PySem.F.slot_tuple_add PySem.F.entry_tuple_add (PySem.F.args_tuple_add_2 _ _)
  (tuple_addW0 a b its.toArray its2.toArray n n2 dd dd2 sl sl2 (by cases r1; rfl)) ⟨ho,ho2,⟨.ref b,H,I,rfl,q⟩⟩
def T8 (K:PySem.W.Frag):R2:=fun x y H Q=>(((J0 fun i j=>.int (i + j)) x y H Q∨∃i j,x=.str i∧y=.str j∧i.length + j.length≤sizeLine∧Q (.str (i++j)) H)∨XH x y H Q)∨T7 K x y H Q∨Tt K x y H Q
theorem bM:jQ X (binaryOp .Add) (T8 X.K):=((Vb.or FJ).or Vs).or (Rp.or QV)
theorem cz {K:PySem.W.Frag}:qK K (T8 K) aQ:=by
 intro Z Θ env C σ H x y dx dy res S bx mU e Q q
 unfold aQ at e
 split at e
 ·cases e
  cases bx.int; cases mU.int
  exact .inl (.inl (.inl ⟨_,_,rfl,rfl,q _ _ (cg.refl _ _) (bL S rfl rfl)⟩))
 ·split at e
  ·rename_i hl
   cases e
   cases bx.str; cases mU.str
   exact .inl (.inl (.inr ⟨_,_,rfl,rfl,gk hl,q _ _ (cg.refl _ _) (bL S rfl rfl)⟩))
  ·cases e
 ·split at e
  ·rename_i hl
   cases e
   obtain ⟨a,vs,rfl,ha,r1⟩:=bx.lst
   obtain ⟨b,ws,rfl,hb,r2⟩:=mU.lst
   exact .inl (.inr ⟨a,b,vs,ws,rfl,rfl,ha,hb,by rw [cG r1,cG r2]; exact gk hl,fun p hp=>q _ _ (cg.upd hp) (gb S (rT r1 r2) hp)⟩)
  ·cases e
 ·split at e
  ·rename_i xs ys he
   cases e
   have:xs=[]:=List.isEmpty_iff.mp he
   subst this
   have by2:=mU
   obtain ⟨a,vs,rfl,ha,r1⟩:=bx.tup
   obtain ⟨b,ws,rfl,hb,r2⟩:=mU.tup
   cases (show vs=[] from r1)
   exact .inr (.inl ⟨a,b,ws,rfl,rfl,jz.of ha,jz.of hb,q _ _ (cg.refl _ _) ⟨S,by2⟩⟩)
  split at e
  ·rename_i xs ys he hl
   cases e
   obtain ⟨a,vs,rfl,ha,r1⟩:=bx.tup
   obtain ⟨b,ws,rfl,hb,r2⟩:=mU.tup
   have l1:=cG r1
   have l2:=cG r2
   have hv:vs≠[]:=fun z=>by
    subst z
    cases xs with
    | nil=>exact he rfl
    | cons _ _=>cases l1
   refine .inr (.inr ⟨a,b,vs,ws,rfl,rfl,jz.of ha,jz.of hb,hv,by rw [l1,l2]; exact gk hl,fun z=>?_,fun _ p hp=>q _ _ (cg.upd hp) (vz S (rT r1 r2) hp)⟩)
   subst z
   have:ys=[]:=List.eq_nil_of_length_eq_zero l2.symm
   subst this
   rw [List.append_nil] at q
   refine q _ _ (cg.refl _ _) ⟨S,?_⟩
   exact bx
  ·cases e
 ·cases e
def jg:PyData→PyData→Option Vl
 | .int i,.int j=>some (.im (.int (i - j)))
 | _,_=>none
theorem Ax {K:PySem.W.Frag} {g:Int→Int→V} {op:PyData→PyData→Option Vl} (h:∀dx dy res,op dx dy=some res→∃i j d,dx=.int i∧dy=.int j∧res=.im d∧iw d=true∧g i j=toV d):qK K (J0 g) op:=by
 intro Z Θ env C σ H x y dx dy res S bx mU e Q q
 obtain ⟨i,j,d,rfl,rfl,rfl,f,hv⟩:=h _ _ _ e
 cases bx.int; cases mU.int
 exact ⟨_,_,rfl,rfl,q _ _ (cg.refl _ _) (bL S f hv)⟩
theorem Ay {K:PySem.W.Frag} {Cn:Int→Int→Prop} {g:Int→Int→V} {op:PyData→PyData→Option Vl} (h:∀dx dy res,op dx dy=some res→∃i j d,dx=.int i∧dy=.int j∧res=.im d∧iw d=true∧g i j=toV d∧Cn i j):qK K (rI Cn g) op:=by
 intro Z Θ env C σ H x y dx dy res S bx mU e Q q
 obtain ⟨i,j,d,rfl,rfl,rfl,f,hv,c⟩:=h _ _ _ e
 cases bx.int; cases mU.int
 exact ⟨_,_,rfl,rfl,c,q _ _ (cg.refl _ _) (bL S f hv)⟩
theorem GK {K:PySem.W.Frag}:qK K (J0 fun i j=>.int (i - j)) jg:=Ax fun dx dy res e=>by
 unfold jg at e
 split at e <;> cases e
 exact ⟨_,_,_,rfl,rfl,rfl,rfl,rfl⟩
def jB:PyData→PyData→Option Vl
 | .int i,.int j=>if 0 < j then some (.im (.int (i % j))) else none
 | _,_=>none
theorem qL {K:PySem.W.Frag}:qK K (rI (fun _ j=>0 < j) fun i j=>.int (i % j)) jB:=Ay fun dx dy res e=>by
 unfold jB at e
 split at e
 ·split at e
  ·rename_i h; cases e; exact ⟨_,_,_,rfl,rfl,rfl,rfl,rfl,h⟩
  ·cases e
 ·cases e
def uf:PyData→PyData→Option Vl
 | .int i,.int j=>if 0 < j∧j < 1073741824 then some (.im (.int (i / j))) else none
 | _,_=>none
theorem IV {K:PySem.W.Frag}:qK K (rI Xn fun i j=>.int (i / j)) uf:=Ay fun dx dy res e=>by
 unfold uf at e
 split at e
 ·split at e
  ·rename_i h; cases e; exact ⟨_,_,_,rfl,rfl,rfl,rfl,rfl,h⟩
  ·cases e
 ·cases e
def oO:PyData→PyData→Option Vl
 | .int i,.int j=>if 0≤j∧j≤1000000∧i.natAbs < 2 ^ 64 then some (.im (.int (i ^ j.toNat))) else none
 | _,_=>none
theorem GP {K:PySem.W.Frag}:qK K (rI Xo fun i j=>.int (i ^ j.toNat)) oO:=Ay fun dx dy res e=>by
 unfold oO at e
 split at e
 ·split at e
  ·rename_i h; cases e; exact ⟨_,_,_,rfl,rfl,rfl,rfl,rfl,h⟩
  ·cases e
 ·cases e
def iQ:PyData→PyData→Option Vl
 | .int i,.int j=>if (-(2 ^ 64) < i∧i < 2 ^ 64)∨(-(2 ^ 64) < j∧j < 2 ^ 64) then some (.im (.int (i * j))) else none
 | _,_=>none
theorem ug {K:PySem.W.Frag}:qK K (rI QD fun i j=>.int (i * j)) iQ:=Ay fun dx dy res e=>by
 unfold iQ at e
 split at e
 ·split at e
  ·rename_i h; cases e; exact ⟨_,_,_,rfl,rfl,rfl,rfl,rfl,h⟩
  ·cases e
 ·cases e
end
section
variable {X:Cx}
def NK:PyData→PyData→Option Bool
 | .int i,.int j=>some (i==j)
 | .str x,.str y=>some (x==y)
 | .bool a,.bool b=>some (a==b)
 | d,e=>if KD d&&KD e&&(PySem.SeqAt.shaped d&&PySem.SeqAt.shaped e) then some (PyData.eqv d e) else none
def nH (d e:PyData):Option Vl:=(NK d e).map fun b=>.im (.bool b)
def qm (d e:PyData):Option Vl:=(NK d e).map fun b=>.im (.bool (!b))
theorem GQ (hu:X.A.units + 64 < cLine):jQ X (compareOp .Eq) (fun x y H Q=>∃d e,RX H d x∧RX H e y∧PySem.SeqAt.shaped d=true∧PySem.SeqAt.shaped e=true∧Q (.bl (PyData.eqv d e)) H):=by
 intro pins s σ H x y v u Q I rx ry h
 obtain ⟨d,e,hd,he,h1,h2,q⟩:=h
 obtain ⟨as,ra⟩:=RD.reads I (hd.rd (K:=X.K)) rx
 obtain ⟨bs,rb⟩:=RD.reads I (he.rd (K:=X.K)) ry
 exact PySem.SeqAt.compareEq_shaped ra rb h1 h2 hu ⟨.bl _,H,I,rfl,q⟩
def Yh:R2:=fun x y H Q=>rEq x y H Q∨∃d e,RX H d x∧RX H e y∧PySem.SeqAt.shaped d=true∧PySem.SeqAt.shaped e=true∧Q (.bl (PyData.eqv d e)) H
def Yi:R2:=fun x y H Q=>rNe x y H Q∨∃d e,RX H d x∧RX H e y∧PySem.SeqAt.shaped d=true∧PySem.SeqAt.shaped e=true∧Q (.bl (!PyData.eqv d e)) H
theorem pF (hu:X.A.units + 64 < cLine):jQ X (compareOp .Eq) Yh:=Xp.or (GQ hu)
theorem wN (hu:X.A.units + 64 < cLine):jQ X (compareOp .NotEq) Yi:=Xq.or (Gu hu)
theorem zp {d e:PyData} {b:Bool} (h:NK d e=some b):(iw d=true∧iw e=true∧Vd (toV d) (toV e)=true∧b=decide (toV d=toV e))∨(KD d=true∧KD e=true∧PySem.SeqAt.shaped d=true∧PySem.SeqAt.shaped e=true∧b=PyData.eqv d e):=by
 unfold NK at h
 split at h
 ·cases h; exact .inl ⟨rfl,rfl,rfl,Aa.symm⟩
 ·cases h; exact .inl ⟨rfl,rfl,rfl,Ab.symm⟩
 ·cases h; exact .inl ⟨rfl,rfl,rfl,Fv.symm⟩
 ·split at h
  ·rename_i q
   cases h
   rw [Bool.and_eq_true,Bool.and_eq_true,Bool.and_eq_true] at q
   exact .inr ⟨q.1.1,q.1.2,q.2.1,q.2.2,rfl⟩
  ·cases h
theorem uL {K:PySem.W.Frag}:qK K Yh nH:=by
 intro Z Θ env C σ H x y dx dy res S bx mU e Q q
 unfold nH at e
 cases h:NK dx dy with
 | none=>rw [h] at e; cases e
 | some b=>
  rw [h] at e
  cases e
  have fin:=q (.bl b) H (cg.refl _ _) (bL S rfl rfl)
  rcases zp h with ⟨f1,f2,sc,eb⟩ | ⟨n1,n2,s1,s2,eb⟩
  ·rw [bx.flat f1,mU.flat f2]
   rw [eb] at fin
   exact .inl ⟨sc,fin⟩
  ·rw [eb] at fin
   exact .inr ⟨dx,dy,bx.rx n1,mU.rx n2,s1,s2,fin⟩
theorem Dv {K:PySem.W.Frag}:qK K Yi qm:=by
 intro Z Θ env C σ H x y dx dy res S bx mU e Q q
 unfold qm at e
 cases h:NK dx dy with
 | none=>rw [h] at e; cases e
 | some b=>
  rw [h] at e
  cases e
  have fin:=q (.bl (!b)) H (cg.refl _ _) (bL S rfl rfl)
  rcases zp h with ⟨f1,f2,sc,eb⟩ | ⟨n1,n2,s1,s2,eb⟩
  ·rw [bx.flat f1,mU.flat f2]
   rw [eb] at fin
   exact .inl ⟨sc,fin⟩
  ·rw [eb] at fin
   exact .inr ⟨dx,dy,bx.rx n1,mU.rx n2,s1,s2,fin⟩
def strLt (x y:Str):Bool:=decide (x.cps.toList < y.cps.toList)
def T9 (xs ys:List PyData):Option Bool:=match keysOf xs,keysOf ys with
 | some ks,some js=>if ks.map gA=js.map gA then some (cL ks js) else none
 | _,_=>none
def u0:PyData→PyData→Option Vl
 | .int i,.int j=>some (.im (.bool (decide (i < j))))
 | .str x,.str y=>some (.im (.bool (strLt x y)))
 | .tuple xs,.tuple ys=>(T9 xs ys).map fun b=>.im (.bool b)
 | _,_=>none
theorem jX {E:Hp}:∀{ds:List PyData} {ks:List Key} {vs:List V},keysOf ds=some ks→g8 E ds vs→vs=ks.map kV
 | [],ks,vs,h,r=>by cases h; exact r
 | d::ds,ks,vs,h,r=>by
  unfold keysOf at h
  split at h
  ·rename_i k t h1 h2
   cases h
   obtain ⟨u,w,e1,q,s⟩:=r
   rw [e1,jX h2 s]
   have:u=kV k:=by
    cases d <;> first | (cases h1; exact q) | cases h1
   rw [this]
   rfl
  ·cases h
def aai:R2:=fun x y H Q=>(∃a b,x=kV a∧y=kV b∧gA a=gA b∧Q (.bl (kLt a b)) H)∨∃a b ks js,x=.ref a∧y=.ref b∧H a=some (.tup (ks.map kV))∧H b=some (.tup (js.map kV))∧ks.map gA=js.map gA∧Q (.bl (cL ks js)) H
theorem NP {K:PySem.W.Frag}:qK K aai u0:=by
 intro Z Θ env C σ H x y dx dy res S bx mU e Q q
 unfold u0 at e
 split at e
 ·cases e
  cases bx.int; cases mU.int
  exact .inl ⟨.inl _,.inl _,rfl,rfl,rfl,q _ _ (cg.refl _ _) (bL S rfl rfl)⟩
 ·cases e
  cases bx.str; cases mU.str
  exact .inl ⟨.inr _,.inr _,rfl,rfl,rfl,q _ _ (cg.refl _ _) (bL S rfl rfl)⟩
 ·rename_i xs ys
  unfold T9 at e
  split at e
  ·rename_i ks js h1 h2
   split at e
   ·rename_i ht
    cases e
    obtain ⟨a,vs,rfl,ha,r1⟩:=bx.tup
    obtain ⟨b,ws,rfl,hb,r2⟩:=mU.tup
    rw [jX h1 r1] at ha
    rw [jX h2 r2] at hb
    exact .inr ⟨a,b,ks,js,rfl,rfl,ha,hb,ht,q _ _ (cg.refl _ _) (bL S rfl rfl)⟩
   ·cases e
  ·cases e
 ·cases e
def u5:PyData→PyData→Option Vl
 | .int i,.int j=>some (.im (.bool (decide (i≤j))))
 | .str x,.str y=>some (.im (.bool (!strLt y x)))
 | _,_=>none
def Yj:R2:=fun x y H Q=>(J0 fun i j=>.bl (decide (i≤j))) x y H Q∨∃i j,x=.str i∧y=.str j∧Q (.bl (!(decide (j.cps.toList < i.cps.toList)))) H
theorem wO:jQ X (compareOp .LtE) Yj:=Xr.or Kl
theorem Dw {K:PySem.W.Frag}:qK K Yj u5:=by
 intro Z Θ env C σ H x y dx dy res S bx mU e Q q
 unfold u5 at e
 split at e
 ·cases e
  cases bx.int; cases mU.int
  exact .inl ⟨_,_,rfl,rfl,q _ _ (cg.refl _ _) (bL S rfl rfl)⟩
 ·cases e
  cases bx.str; cases mU.str
  exact .inr ⟨_,_,rfl,rfl,q _ _ (cg.refl _ _) (bL S rfl rfl)⟩
 ·cases e
def NQ:PyData→PyData→Option Vl
 | .int i,.int j=>some (.im (.bool (decide (j < i))))
 | _,_=>none
def KN:PyData→PyData→Option Vl
 | .int i,.int j=>some (.im (.bool (decide (j≤i))))
 | _,_=>none
theorem Yk {K:PySem.W.Frag}:qK K (J0 fun i j=>.bl (decide (j < i))) NQ:=Ax fun dx dy res e=>by
 unfold NQ at e
 split at e <;> cases e
 exact ⟨_,_,_,rfl,rfl,rfl,rfl,rfl⟩
theorem Yl {K:PySem.W.Frag}:qK K (J0 fun i j=>.bl (decide (j≤i))) KN:=Ax fun dx dy res e=>by
 unfold KN at e
 split at e <;> cases e
 exact ⟨_,_,_,rfl,rfl,rfl,rfl,rfl⟩
def isNone:PyData→Bool
 | .none=>true
 | _=>false
def eE (d e:PyData):Option Vl:=if isNone e then some (.im (.bool (isNone d))) else none
def dz (d e:PyData):Option Vl:=if isNone e then some (.im (.bool (!isNone d))) else none
theorem Dy {Z Θ:List Addr} {env:En} {σ:St} {H:Hp} {x:V} {d:PyData} (h:gH Z Θ env σ H d x):decide (x=V.non)=isNone d:=by
 cases d <;> first
  | (cases (show x=_ from h); rfl)
  | (obtain ⟨a,vs,e,_⟩:=h; subst e; rfl)
theorem NZ {K:PySem.W.Frag}:qK K (fun x y H Q=>y=.non∧Q (.bl (decide (x=.non))) H) eE:=by
 intro Z Θ env C σ H x y dx dy res S bx mU e Q q
 unfold eE at e
 split at e
 ·rename_i hn
  cases e
  have hy:y=.non:=of_decide_eq_true ((Dy mU).trans hn)
  exact ⟨hy,by rw [Dy bx]; exact q _ _ (cg.refl _ _) (bL S rfl rfl)⟩
 ·cases e
end
end L2
set_option maxHeartbeats 4000000
namespace L2
open PySem PySem.Spec PyProof.Rows PySem.W
section
variable {X:Cx} {pins:List (Addr×Obj)} {σ:St} {H:Hp} {s:Shared} {a b:Addr}
theorem Inv.Ym (I:Inv X pins σ H s) (h:H a=some (.dK [])):Inv X pins σ (upd H a (.dT [])) s:=by
 obtain ⟨z,hm,vs,r,o,es,ep,h1,h2,h3,h4,h5,h6⟩:=I.hok a _ h
 cases r
 have e0:es.toList=[]:=by
  cases hh:es.toList with
  | nil=>rfl
  | cons x xs=>rw [hh] at h5; cases h5
 have:=rN (t':=s.toks) (ob:=.dT []) I (by rw [h]; trivial) (Heap.SameBut.refl a s.heap) ⟨_,h1⟩ ⟨Nat.zero_le _,hm,[],.nil,o,es,ep,h1,h2,h3,e0,List.nodup_nil⟩
 exact this
theorem Inv.Ze (I:Inv X pins σ (upd H a (.dT [])) s) (h:H a=some (.dK [])):Inv X pins σ H s:=by
 obtain ⟨z,hm,xs,r,o,es,ep,h1,h2,h3,h4,h5⟩:=I.hok a _ aX
 cases r
 have e0:es=#[]:=by
  cases es
  simp at h4
  rw [h4]
 subst e0
 have:=rN (t':=s.toks) (ob:=.dK []) I (by rw [aX]; trivial) (Heap.SameBut.refl a s.heap) ⟨_,h1⟩ (Gg (Nat.zero_le _) hm .nil ⟨o,#[],ep,h1,h2,h3,fun i hi=>absurd hi (by simp),.nil,List.nodup_nil⟩)
 rw [HJ] at this
 have e:upd H a (.dK [])=H:=by
  funext b
  by_cases hb:b=a
  ·subst hb; rw [aX,h]
  ·exact aY hb
 rw [e] at this
 exact this
end
def IW (H:Hp) (a:Addr) (y:V) (r:Option V):Prop:=o7 H a y r∨(H a=some (.dK [])∧(∃(b:Addr) (ks:List Key),y=.ref b∧H b=some (.tup (ks.map kV)))∧r=none)
section
variable {X:Cx} {pins:List (Addr×Obj)} {σ:St} {H:Hp} {s:Shared} {a:Addr} {y v:V} {u r:Value} {o:Option V} {A:Around} {E:Value→Shared→Prop}
theorem IW.re (ha:H a=some (.dK [])) {b:Addr} {ks:List Key} (hb:H b=some (.tup (ks.map kV))):o7 (upd H a (.dT [])) a (.ref b) none:=by
 have:(upd H a (.dT [])) b=some (.tup (ks.map kV)):=by rw [aY (Ln hb ha (fun z=>nomatch z))]; exact hb
 exact o7.t (kvs:=[]) (k:=ks) aX this
theorem Yn {Q:Value→Shared→Prop} (hu:A.units + 1 < cLine) (I:Inv X pins σ H s) (g:IW H a y o) (ry:RelV y u) (h:∀s',Inv X pins σ H s'→Q (.bool o.isSome) s'):wpAny (model X.prog X.w) A (compareOp .In u (.ref a)) Q E s:=by
 rcases g with g | ⟨ha,⟨b,ks,rfl,hb⟩,rfl⟩
 ·exact XJ hu I g ry h
 ·exact XJ hu (I.Ym ha) (IW.re ha hb) ry fun s' I'=>h s' (I'.Ze ha)
theorem N5 {Q:Value→Shared→Prop} (hu:A.units + 1 < cLine) (I:Inv X pins σ H s) (g:IW H a y o) (ry:RelV y u) (h:∀s',Inv X pins σ H s'→Q (.bool (!o.isSome)) s'):wpAny (model X.prog X.w) A (compareOp .NotIn u (.ref a)) Q E s:=by
 rcases g with g | ⟨ha,⟨b,ks,rfl,hb⟩,rfl⟩
 ·exact Ib hu I g ry h
 ·exact Ib hu (I.Ym ha) (IW.re ha hb) ry fun s' I'=>h s' (I'.Ze ha)
theorem VR (hu:X.A.units + 1 < cLine):jQ X (compareOp .In) (fun y x H Q=>∃a o,x=.ref a∧IW H a y o∧Q (.bl o.isSome) H):=by
 intro pins s σ H x y v u Q I rx ry h
 obtain ⟨a,o,rfl,g,q⟩:=h
 cases ry
 exact Yn hu I g rx fun s' I'=>⟨.bl _,H,I',rfl,q⟩
theorem KQ (hu:X.A.units + 1 < cLine):jQ X (compareOp .NotIn) (fun y x H Q=>∃a o,x=.ref a∧IW H a y o∧Q (.bl (!o.isSome)) H):=by
 intro pins s σ H x y v u Q I rx ry h
 obtain ⟨a,o,rfl,g,q⟩:=h
 cases ry
 exact N5 hu I g rx fun s' I'=>⟨.bl _,H,I',rfl,q⟩
theorem Rq (hu:X.A.units + 1 < cLine):Lj X (fun x y H Q=>∃a v,x=.ref a∧o7 H a y (some v)∧Q v H):=by
 intro value slice pins s σ H x y v u Q I rx ry h hs
 obtain ⟨a,z,rfl,g,q⟩:=h
 cases rx
 have hT:=Cy I g
 have h2:wpAny (model X.prog X.w) X.A (getItem (.ref a) u) (EP X pins σ Q) X.xe s:=Ka hu I g ry fun w' s' I' r'=>⟨z,H,I',r',q⟩
 unfold subscriptTail
 refine wpAny_bind ?_
 rw [getitemInPython_of_ne hT.not_modules]
 refine wpAny_bind (wpAny_specialOf hT PySem.F.slot_dict_getitem.lookup ?_)
 have fin:wpAny (model X.prog X.w) X.A (subscripted slice false (.ref a) u) (fun r s₃=>wpAny (model X.prog X.w) X.A (letTemporaryGo value (.ref a) r >>= fun _=>pure r) (EP X pins σ Q) X.xe s₃) X.xe s:=by
  rw [hs]
  exact wpAny_operating (wpAny_mono h2 (fun r s₃ h₃=>wpAny_bind (wpAny_letTemporaryGo (wpAny_pure h₃))) fun _ _ x=>x)
 first
  | exact wpAny_pure (wpAny_bind fin)
  | exact wpAny_bind (wpAny_pure (wpAny_bind fin))
  | exact wpAny_bind fin
end
def j5 {κ:Type} [DecidableEq κ] (f:PyData→Option κ) (k:κ):List (PyData×PyData)→Option PyData
 | []=>none
 | p::r=>if f p.1=some k then some p.2 else j5 f k r
def lH (kvs:List (PyData×PyData)) (d:PyData):Option (Option PyData):=match fP d with
 | some k=>if (cV fP kvs).isSome then some (j5 fP k kvs) else none
 | none=>match fj d with
  | some ks=>if (cV fj kvs).isSome then some (j5 fj ks kvs) else none
  | none=>none
theorem wQ {κ:Type} [DecidableEq κ] {f:PyData→Option κ} {k:κ} {E:Hp}:∀{kvs:List (PyData×PyData)} {ks:List κ} {vs:List V},cV f kvs=some ks→rB E kvs vs→
  (∃d v,j5 f k kvs=some d∧qj (ks.zip vs) k=some v∧RZ E d v)∨(j5 f k kvs=none∧qj (ks.zip vs) k=none)
 | [],ks,vs,h,r=>by
  cases h
  cases (show vs=[] from r)
  exact .inr ⟨rfl,rfl⟩
 | (p,d)::kvs,ks,vs,h,r=>by
  unfold cV at h
  split at h
  ·rename_i k' t h1 h2
   cases h
   obtain ⟨v,w,rfl,q,s⟩:=r
   by_cases e:k'=k
   ·subst e
    refine .inl ⟨d,v,?_,?_,q⟩
    ·unfold j5; rw [if_pos h1]
    ·exact rK (p:=(k',v)) rfl
   ·have e1:j5 f k ((p,d)::kvs)=j5 f k kvs:=by
     show (if f p=some k then some d else j5 f k kvs)=_
     rw [if_neg]
     intro z
     rw [h1] at z
     exact e (Option.some.inj z)
    have e2:qj ((k'::t).zip (v::w)) k=qj (t.zip w) k:=rM (p:=(k',v)) e
    rw [e1,e2]
    exact wQ h2 s
  ·cases h
theorem jC {κ:Type} {f:PyData→Option κ}:∀{kvs:List (PyData×PyData)} {ks:List κ},cV f kvs=some ks→ks.length=kvs.length
 | [],ks,h=>by cases h; rfl
 | p::kvs,ks,h=>by
  unfold cV at h
  split at h
  ·rename_i k' t h1 h2
   cases h
   rw [List.length_cons,List.length_cons,jC h2]
  ·cases h
theorem VV {E:Hp} {d:PyData} {k:Key} {v:V} (h:fP d=some k) (r:RZ E d v):v=kV k:=by
 cases d <;> first | (cases h; exact r) | cases h
theorem V0 {d:PyData} {k:Key} {ks:List Key} (h:fP d=some k) (g:fj d=some ks):False:=by
 cases d <;> first | (cases h; done) | (cases g; done)
section
variable {K:PySem.W.Frag} {Z Θ:List Addr} {env:En} {C:Ce} {σ:St} {H:Hp} {x y:V}
theorem j6 {kvs:List (PyData×PyData)} {ks:List Key} {js:List (List Key)} (h:cV fP kvs=some ks) (g:cV fj kvs=some js):kvs=[]:=by
 cases kvs with
 | nil=>rfl
 | cons p r=>
  unfold cV at h g
  split at h
  ·rename_i h1 h2
   split at g
   ·rename_i h3 h4
    exact (V0 h1 h3).elim
   ·cases g
  ·cases h
theorem gH.get {kvs:List (PyData×PyData)} {d:PyData} {o:Option PyData} (h:gH Z Θ env σ H (.dict kvs) x) (hy:gH Z Θ env σ H d y) (e:lH kvs d=some o):
  ∃a r,x=.ref a∧IW H a y r∧((∃v,r=some v∧∃d',o=some d'∧RZ (er (aV Z Θ env σ) H) d' v∧o7 H a y (some v))∨(r=none∧o=none)):=by
 obtain ⟨a,vs,rfl,dt,rd⟩:=h.dct
 unfold lH at e
 split at e
 ·rename_i k hk
  split at e
  ·rename_i hs
   cases e
   have yk:y=kV k:=by
    cases d <;> first | (cases hk; exact hy) | cases hk
   have dk:∃ks,cV fP kvs=some ks∧H a=some (.dK (ks.zip vs)):=by
    rcases dt with h | ⟨ks,⟨ne,h2⟩,_⟩
    ·exact h
    ·obtain ⟨ks',h1⟩:=Option.isSome_iff_exists.mp hs
     exact absurd (j6 h1 h2) ne
   obtain ⟨ks,h1,ha⟩:=dk
   have g:=o7.k (k:=k) ha
   rw [←yk] at g
   rcases wQ (k:=k) h1 rd with ⟨d',v,e1,e2,r⟩ | ⟨e1,e2⟩
   ·rw [e2] at g
    exact ⟨a,some v,rfl,.inl g,.inl ⟨v,rfl,d',e1,r,g⟩⟩
   ·rw [e2] at g
    exact ⟨a,none,rfl,.inl g,.inr ⟨rfl,e1⟩⟩
  ·cases e
 ·split at e
  ·rename_i ks hks
   split at e
   ·rename_i hs
    cases e
    obtain ⟨b,hb,rfl⟩:∃b,H b=some (.tup (ks.map kV))∧y=.ref b:=by
     cases d <;> first | cases hks | skip
     obtain ⟨b,ws,rfl,hb,r⟩:=hy.tup
     rw [jX hks r] at hb
     exact ⟨b,hb,rfl⟩
    rcases dt with ⟨js,h1,ha⟩ | ⟨js,⟨ne,h1⟩,ha⟩
    ·obtain ⟨js',h2⟩:=Option.isSome_iff_exists.mp hs
     have:=j6 h1 h2
     subst this
     cases h1
     exact ⟨a,none,rfl,.inr ⟨ha,⟨b,ks,rfl,hb⟩,rfl⟩,.inr ⟨rfl,rfl⟩⟩
    ·have g:=o7.t (k:=ks) ha hb
     rcases wQ (k:=ks) h1 rd with ⟨d',v,e1,e2,r⟩ | ⟨e1,e2⟩
     ·rw [e2] at g
      exact ⟨a,some v,rfl,.inl g,.inl ⟨v,rfl,d',e1,r,g⟩⟩
     ·rw [e2] at g
      exact ⟨a,none,rfl,.inl g,.inr ⟨rfl,e1⟩⟩
   ·cases e
  ·cases e
end
def inD (d:PyData) (ds:List PyData):Bool:=ds.any fun e=>Ms (toV e) (toV d)
def inB (d:PyData):PyData→Option Bool
 | .list ds=>if iw d&&ds.all iw then some (inD d ds) else none
 | .tuple ds=>if iw d&&ds.all iw then some (inD d ds) else none
 | .dict kvs=>(lH kvs d).map (·.isSome)
 | _=>none
def GR (d e:PyData):Option Vl:=(inB d e).map fun b=>.im (.bool b)
def vA (d e:PyData):Option Vl:=(inB d e).map fun b=>.im (.bool (!b))
def Yo (K:PySem.W.Frag):R2:=fun x y H Q=>Za K false x y H Q∨∃a o,y=.ref a∧IW H a x o∧Q (.bl o.isSome) H
def I9 (K:PySem.W.Frag):R2:=fun x y H Q=>Za K true x y H Q∨∃a o,y=.ref a∧IW H a x o∧Q (.bl (!o.isSome)) H
theorem GX {X:Cx} (hu:X.A.units + 1 < cLine):jQ X (compareOp .In) (Yo X.K):=J9.or (VR hu)
theorem KR {X:Cx} (hu:X.A.units + 1 < cLine):jQ X (compareOp .NotIn) (I9 X.K):=Ah.or (KQ hu)
theorem uh {d:PyData} (f:iw d=true):mL (toV d)=true:=by
 cases d <;> first | rfl | cases f
theorem Ua {d:PyData} {ds:List PyData}:inV (toV d) (ds.map toV)=inD d ds:=by
 unfold inV inD
 rw [List.any_map]
 rfl
theorem Ja {ds:List PyData} (f:ds.all iw=true):(ds.map toV).all mL=true:=by
 rw [List.all_map,List.all_eq_true]
 intro d hd
 exact uh (List.all_eq_true.mp f d hd)
theorem Dz {K:PySem.W.Frag} {Z Θ:List Addr} {env:En} {σ:St} {H:Hp} {x y:V} {dx dy:PyData} {b:Bool} (bx:gH Z Θ env σ H dx x) (mU:gH Z Θ env σ H dy y) (e:inB dx dy=some b):
  (∃p xs,y=.ref p∧(dW K H p xs∨jz K H p xs)∧mL x=true∧xs.all mL=true∧inV x xs=b)∨∃a o,y=.ref a∧IW H a x o∧o.isSome=b:=by
 unfold inB at e
 split at e
 ·split at e
  ·rename_i ds hf
   rw [Bool.and_eq_true] at hf
   cases e
   obtain ⟨a,vs,rfl,ha,r⟩:=mU.lst
   rw [wL hf.2 r] at ha
   rw [bx.flat hf.1]
   exact .inl ⟨a,_,rfl,.inl (dW.of ha),uh hf.1,Ja hf.2,Ua⟩
  ·cases e
 ·split at e
  ·rename_i ds hf
   rw [Bool.and_eq_true] at hf
   cases e
   obtain ⟨a,vs,rfl,ha,r⟩:=mU.tup
   rw [wL hf.2 r] at ha
   rw [bx.flat hf.1]
   exact .inl ⟨a,_,rfl,.inr (jz.of ha),uh hf.1,Ja hf.2,Ua⟩
  ·cases e
 ·rename_i kvs
  cases hl:lH kvs dx with
  | none=>rw [hl] at e; cases e
  | some o=>
   rw [hl] at e
   cases e
   obtain ⟨a,r,rfl,g,q⟩:=mU.get bx hl
   refine .inr ⟨a,r,rfl,g,?_⟩
   rcases q with ⟨v,rfl,d',rfl,_⟩ | ⟨rfl,rfl⟩ <;> rfl
 ·cases e
theorem N6 {K:PySem.W.Frag}:qK K (Yo K) GR:=by
 intro Z Θ env C σ H x y dx dy res S bx mU e Q q
 unfold GR at e
 cases h:inB dx dy with
 | none=>rw [h] at e; cases e
 | some b=>
  rw [h] at e
  cases e
  have fin:=q (.bl b) H (cg.refl _ _) (bL S rfl rfl)
  rcases Dz (K:=K) bx mU h with ⟨p,xs,e1,e2,e3,e4,e5⟩ | ⟨a,o,e1,e2,e3⟩
  ·rw [←e5] at fin
   exact .inl ⟨p,xs,e1,e2,e3,e4,fin⟩
  ·rw [←e3] at fin
   exact .inr ⟨a,o,e1,e2,fin⟩
theorem N7 {K:PySem.W.Frag}:qK K (I9 K) vA:=by
 intro Z Θ env C σ H x y dx dy res S bx mU e Q q
 unfold vA at e
 cases h:inB dx dy with
 | none=>rw [h] at e; cases e
 | some b=>
  rw [h] at e
  cases e
  have fin:=q (.bl (!b)) H (cg.refl _ _) (bL S rfl rfl)
  rcases Dz (K:=K) bx mU h with ⟨p,xs,e1,e2,e3,e4,e5⟩ | ⟨a,o,e1,e2,e3⟩
  ·rw [←e5] at fin
   exact .inl ⟨p,xs,e1,e2,e3,e4,fin⟩
  ·rw [←e3] at fin
   exact .inr ⟨a,o,e1,e2,fin⟩
def nJ:PyData→PyData→Option PyData
 | .list ds,.int i=>j0 ds i
 | .tuple ds,.int i=>j0 ds i
 | .str z,.int i=>if z.length≤jA then (j0 z.cps.toList i).map fun c=>.str ⟨#[c]⟩ else none
 | .dict kvs,d=>match lH kvs d with
  | some (some e)=>some e
  | _=>none
 | _,_=>none
def aR (d e:PyData):Option Vl:=(nJ d e).map .im
def Yp (K:PySem.W.Frag):R2:=fun x y H Q=>rIx K x y H Q∨∃a v,x=.ref a∧o7 H a y (some v)∧Q v H
theorem bA {X:Cx} (hu:X.A.units + 1 < cLine):Lj X (Yp X.K):=Vo.or (Rq hu)
theorem Jb {E:Hp} {ds:List PyData} {vs:List V} {i:Int} {d:PyData} (r:g8 E ds vs) (e:j0 ds i=some d):∃v,j0 vs i=some v∧RZ E d v:=by
 unfold j0 at e ⊢
 rw [cG r]
 cases h:oV ds.length i with
 | none=>rw [h] at e; cases e
 | some j=>
  rw [h] at e
  exact qJ r e
theorem bW {K:PySem.W.Frag}:qK K (Yp K) aR:=by
 intro Z Θ env C σ H x y dx dy res S bx mU e Q q
 unfold aR at e
 cases h:nJ dx dy with
 | none=>rw [h] at e; cases e
 | some d=>
  rw [h] at e
  cases e
  unfold nJ at h
  split at h
  ·obtain ⟨a,vs,rfl,ha,r⟩:=bx.lst
   cases mU.int
   obtain ⟨v,e1,r1⟩:=Jb r h
   exact .inl (.inl ⟨a,vs,_,v,rfl,rfl,dW.of ha,e1,q _ _ (cg.refl _ _) ⟨S,r1⟩⟩)
  ·obtain ⟨a,vs,rfl,ha,r⟩:=bx.tup
   cases mU.int
   obtain ⟨v,e1,r1⟩:=Jb r h
   exact .inl (.inr (.inl ⟨a,vs,_,v,rfl,rfl,jz.of ha,e1,q _ _ (cg.refl _ _) ⟨S,r1⟩⟩))
  ·split at h
   ·rename_i z i hz
    cases bx.str
    cases mU.int
    cases hc:j0 z.cps.toList i with
    | none=>rw [hc] at h; cases h
    | some c=>
     rw [hc] at h
     cases h
     exact .inl (.inr (.inr ⟨z,i,c,rfl,rfl,gk hz,hc,q _ _ (cg.refl _ _) (bL S rfl rfl)⟩))
   ·cases h
  ·split at h
   ·rename_i kvs e' hl
    cases h
    obtain ⟨a,r,rfl,g,hq⟩:=bx.get mU hl
    rcases hq with ⟨v,rfl,d',e1,r1,g1⟩ | ⟨_,e1⟩
    ·cases e1
     exact .inr ⟨a,v,rfl,g1,q _ _ (cg.refl _ _) ⟨S,r1⟩⟩
    ·cases e1
   ·cases h
  ·cases h
end L2
set_option maxHeartbeats 4000000
namespace L2
open PySem PySem.Spec PyProof.Rows PySem.W
def Rr:PyData→Option Bool
 | .none=>some false
 | .bool b=>some b
 | .int i=>some (i != 0)
 | .str x=>if x.length≤jA then some ((x.length:Int) != 0) else none
 | .list ds=>some (!ds.isEmpty)
 | .tuple ds=>some (!ds.isEmpty)
 | .dict kvs=>if (cV fP kvs).isSome then some (!kvs.isEmpty) else none
def gM (f:FB):FT:=fun env C=>match f env C with
 | some (d,_,C')=>match Rr d with
  | some b=>some (b,C')
  | none=>none
 | none=>none
def b7 (f:FE):FT:=fun env C=>match f env C with
 | some (.im (.bool b),_,C')=>some (b,C')
 | _=>none
def dY (f:FT):FT:=fun env C=>match f env C with
 | some (b,C')=>some (!b,C')
 | none=>none
def cN (f g:FT):FT:=fun env C=>match f env C with
 | some (true,C')=>g env C'
 | some (false,C')=>some (false,C')
 | none=>none
def je (f g:FT):FT:=fun env C=>match f env C with
 | some (true,C')=>some (true,C')
 | some (false,C')=>g env C'
 | none=>none
theorem V1 {K:PySem.W.Frag} {Z Θ:List Addr} {env:En} {σ:St} {H:Hp} {x:V} {d:PyData} {b:Bool} (h:gH Z Θ env σ H d x) (e:Rr d=some b):Ve K x H b:=by
 cases d with
 | none=>cases e; cases (show x=_ from h); rfl
 | bool c=>cases e; cases (show x=_ from h); rfl
 | int i=>cases e; cases (show x=_ from h); rfl
 | str z=>
  simp only [Rr] at e
  split at e
  ·rename_i hz; cases e; cases (show x=_ from h); exact ⟨gk hz,rfl⟩
  ·cases e
 | list ds=>
  cases e
  obtain ⟨a,vs,rfl,ha,r⟩:=h.lst
  refine .inl ⟨vs,dW.of ha,?_⟩
  have:=cG r
  cases ds <;> cases vs <;> first | rfl | cases this
 | tuple ds=>
  cases e
  obtain ⟨a,vs,rfl,ha,r⟩:=h.tup
  refine .inr (.inl ⟨vs,jz.of ha,?_⟩)
  have:=cG r
  cases ds <;> cases vs <;> first | rfl | cases this
 | dict kvs=>
  simp only [Rr] at e
  split at e
  ·rename_i hs
   cases e
   obtain ⟨a,vs,rfl,da,r⟩:=h.dct
   rcases da with ⟨ks,h1,ha⟩ | ⟨ks,⟨ne,h2⟩,ha⟩
   ·refine .inr (.inr ⟨_,ha,?_⟩)
    have l1:=jC h1
    have l2:=rR r
    cases kvs <;> cases ks <;> cases vs <;> first | rfl | cases l1 | cases l2
   ·obtain ⟨ks',h1⟩:=Option.isSome_iff_exists.mp hs
    exact absurd (j6 h1 h2) ne
  ·cases e
section
variable {X:Cx} {a b:Expr} {pos:Pos}
theorem Az {f:FB} (h:PE X a (nG X.K f)) (he:∀whole,isTrue a X.env whole=(do let v ←whole; standAt a.pos; holding [v] (truthy v)):=by intro _; rfl):PT X a (pY X.K (gM f)):=
 (Mj h he).weak fun σ H Q ⟨Z,Θ,env,C,b,C',S,hf,q⟩=>by
  unfold gM at hf
  split at hf
  ·rename_i d e1 C1 h1
   split at hf
   ·rename_i b' hb
    cases hf
    exact ⟨Z,Θ,env,C,d,e1,C',S,h1,fun v H' k f S' bo=>⟨b,V1 bo hb,q H' k (S.go k S'.cell)⟩⟩
   ·cases hf
  ·cases hf
theorem DG {K:PySem.W.Frag} {t:TE} {f:FE} (w:∀σ H Q,tE K f σ H Q→t σ H Q):∀σ H Q,pY K (b7 f) σ H Q→Mg t σ H Q:=by
 rintro σ H Q ⟨Z,Θ,env,C,b,C',S,hf,q⟩
 unfold b7 at hf
 split at hf
 ·rename_i b' e1 C1 h1
  cases hf
  refine w _ _ _ ⟨Z,Θ,env,C,.im (.bool b),e1,C',S,h1,fun v H' k f R=>?_⟩
  obtain ⟨S',r⟩:=R
  exact ⟨b,r,q H' k (S.go k S'.cell)⟩
 ·cases hf
theorem fJ {o:CmpOp} {r:R2} {op:PyData→PyData→Option Vl} {fa fb:FB} (ho:jQ X (compareOp o) r) (L:qK X.K r op) (ha:PE X a (nG X.K fa)) (hb:PE X b (nG X.K fb)) (hm:behindInMarks o b=false):
  PT X (.Compare a [o] [b] pos) (pY X.K (b7 (aC op fa fb))):=(QG ho ha hb hm).weak (DG (rY L))
theorem V2 {f:FT} (h:PT X a (pY X.K f)):PT X (.UnaryOp .Not a pos) (pY X.K (dY f)):=(UJ h).weak fun σ H Q ⟨Z,Θ,env,C,b,C',S,hf,q⟩=>by
 unfold dY at hf
 split at hf
 ·rename_i b' C1 h1
  cases hf
  exact ⟨Z,Θ,env,C,b',C',S,h1,q⟩
 ·cases hf
theorem N8 {K:PySem.W.Frag} {f g:FT}:∀σ H Q,pY K (cN f g) σ H Q→W7 (pY K f) (pY K g) σ H Q:=by
 rintro σ H Q ⟨Z,Θ,env,C,b,C',S,hf,q⟩
 unfold cN at hf
 split at hf
 ·rename_i C1 h1
  exact ⟨Z,Θ,env,C,true,C1,S,h1,fun H1 k1 S1=>Al ⟨Z,Θ,env,C1,b,C',S1,hf,fun H2 k2 S2=>q H2 (k1.trans k2) S2⟩⟩
 ·rename_i C1 h1
  cases hf
  exact ⟨Z,Θ,env,C,false,C',S,h1,fun H1 k1 S1=>Ak (q H1 k1 S1)⟩
 ·cases hf
theorem Rt {K:PySem.W.Frag} {f g:FT}:∀σ H Q,pY K (je f g) σ H Q→tOr (pY K f) (pY K g) σ H Q:=by
 rintro σ H Q ⟨Z,Θ,env,C,b,C',S,hf,q⟩
 unfold je at hf
 split at hf
 ·rename_i C1 h1
  cases hf
  exact ⟨Z,Θ,env,C,true,C',S,h1,fun H1 k1 S1=>Al (q H1 k1 S1)⟩
 ·rename_i C1 h1
  exact ⟨Z,Θ,env,C,false,C1,S,h1,fun H1 k1 S1=>Ak ⟨Z,Θ,env,C1,b,C',S1,hf,fun H2 k2 S2=>q H2 (k1.trans k2) S2⟩⟩
 ·cases hf
variable {rest:List Expr}
theorem Ba {f:FT} (h:PT X a (pY X.K f)):PW X (.BoolOp .And [a] pos) (pY X.K f):=Qw h
theorem V3 {f:FT} (h:PT X a (pY X.K f)):PW X (.BoolOp .Or [a] pos) (pY X.K f):=Uz h
theorem wR {f g:FT} (h:PT X a (pY X.K f)) (hb:PW X (.BoolOp .And (b::rest) pos) (pY X.K g)):PW X (.BoolOp .And (a::b::rest) pos) (pY X.K (cN f g)):=(UG h hb).weak N8
theorem Yq {f g:FT} (h:PT X a (pY X.K f)) (hb:PW X (.BoolOp .Or (b::rest) pos) (pY X.K g)):PW X (.BoolOp .Or (a::b::rest) pos) (pY X.K (je f g)):=(W8 h hb).weak Rt
end
def gO (op op':PyData→PyData→Option Vl) (fa fb fc:FB):FE:=fun env C=>match fa env C with
 | some (x,e1,C1)=>match fb e1 C1 with
  | some (y,e2,C2)=>match op x y with
   | some (.im (.bool true))=>match fc e2 C2 with
    | some (z,e3,C3)=>match op' y z with
     | some (.im (.bool b))=>some (.im (.bool b),env,C3)
     | _=>none
    | none=>none
   | some (.im (.bool false))=>some (.im (.bool false),env,C2)
   | _=>none
  | none=>none
 | none=>none
theorem Oa {K:PySem.W.Frag} {r r':R2} {op op':PyData→PyData→Option Vl} (L:qK K r op) (L':qK K r' op') {fa fb fc:FB}:∀σ H Q,tE K (gO op op' fa fb fc) σ H Q→Mh r r' (nG K fa) (nG K fb) (nG K fc) σ H Q:=by
 rintro σ H Q ⟨Z,Θ,env,C,res,env',C',S,hf,q⟩
 unfold gO at hf
 split at hf
 ·rename_i x e1 C1 h1
  split at hf
  ·rename_i y e2 C2 h2
   refine ⟨Z,Θ,env,C,x,e1,C1,S,h1,fun v H1 k1 f1 S1 b1=>⟨Z,Θ,e1,C1,y,e2,C2,S1,h2,fun u H2 k2 f2 S2 b2=>?_⟩⟩
   split at hf
   ·rename_i h3
    split at hf
    ·rename_i z e3 C3 h4
     split at hf
     ·rename_i b h5
      cases hf
      refine L Z Θ e2 C2 σ H2 v u x y _ S2 (b1.go S1 k2 f2) b2 h3 _ fun w H3 k3 R=>⟨true,R.2,Al ⟨Z,Θ,e2,C2,z,e3,C',R.1,h4,fun w2 H4 k4 f4 S4 b4=>?_⟩⟩
      refine L' Z Θ e3 C' σ H4 u w2 y z _ S4 ((b2.go S2 k3 (Fz.refl _)).go R.1 k4 f4) b4 h5 Q fun w3 H5 k5 R5=>?_
      have k:=(((k1.trans k2).trans k3).trans k4).trans k5
      exact q w3 H5 k (Fz.refl _) ⟨S.go k R5.1.cell,R5.2⟩
     ·cases hf
    ·cases hf
   ·rename_i h3
    cases hf
    refine L Z Θ e2 C' σ H2 v u x y _ S2 (b1.go S1 k2 f2) b2 h3 _ fun w H3 k3 R=>⟨false,R.2,Ak ?_⟩
    have k:=(k1.trans k2).trans k3
    exact q _ H3 k (Fz.refl _) ⟨S.go k R.1.cell,rfl⟩
   ·cases hf
  ·cases hf
 ·cases hf
section
variable {X:Cx} {a b c:Expr} {pos:Pos} {r r':R2} {o o':CmpOp} {op op':PyData→PyData→Option Vl} {fa fb fc:FB}
theorem Ob (ho:jQ X (compareOp o) r) (L:qK X.K r op) (ho':jQ X (compareOp o') r') (L':qK X.K r' op') (ha:PE X a (nG X.K fa)) (hb:PE X b (nG X.K fb)) (hc:PE X c (nG X.K fc))
  (hm:lastMarks [o,o'] [b,c]=false:=by with_unfolding_all rfl):PT X (.Compare a [o,o'] [b,c] pos) (pY X.K (b7 (gO op op' fa fb fc))):=(Mi ho ho' ha hb hc hm).weak (DG (Oa L L'))
end
def dj (f g:FE):FE:=fun env C=>match f env C with
 | some (.im (.bool true),_,C')=>g env C'
 | some (.im (.bool false),_,C')=>some (.im (.bool false),env,C')
 | _=>none
def jT (f g:FE):FE:=fun env C=>match f env C with
 | some (.im (.bool true),_,C')=>some (.im (.bool true),env,C')
 | some (.im (.bool false),_,C')=>g env C'
 | _=>none
def eF (f:FE):FE:=fun env C=>match f env C with
 | some (.im (.bool b),_,C')=>some (.im (.bool (!b)),env,C')
 | _=>none
def iG (c:FT) (f g:FE):FE:=fun env C=>match c env C with
 | some (true,C')=>f env C'
 | some (false,C')=>g env C'
 | none=>none
def iH (f:FB):FE:=fun env C=>match f env C with
 | some (.int i,_,C')=>some (.im (.int (-i)),env,C')
 | _=>none
section
variable {X:Cx} {a b c:Expr} {pos:Pos} {rest:List Expr}
theorem Bb {o} {f:FE} (h:PE X a (tE X.K f)):PE X (.BoolOp o [a] pos) (tE X.K f):=UL h
theorem wU {f g:FE} (ha:PE X a (tE X.K f)) (hb:PE X (.BoolOp .And (b::rest) pos) (tE X.K g)):PE X (.BoolOp .And (a::b::rest) pos) (tE X.K (dj f g)):=(UT ha hb).weak fun σ H Q ⟨Z,Θ,env,C,r,env',C',S,hf,q⟩=>by
 unfold dj at hf
 split at hf
 ·rename_i e1 C1 h1
  refine ⟨Z,Θ,env,C,_,e1,C1,S,h1,fun v H1 k1 f1 R1=>⟨true,R1.2,Al ⟨Z,Θ,env,C1,r,env',C',S.go k1 R1.1.cell,hf,fun w H2 k2 f2 R2=>q w H2 (k1.trans k2) f2 (R2.from k1)⟩⟩⟩
 ·rename_i e1 C1 h1
  cases hf
  exact ⟨Z,Θ,env,C,_,e1,C',S,h1,fun v H1 k1 f1 R1=>⟨false,R1.2,Ak (q _ H1 k1 (Fz.refl _) ⟨S.go k1 R1.1.cell,rfl⟩)⟩⟩
 ·cases hf
theorem V4 {f:FE} (ha:PE X a (tE X.K f)):PE X (.UnaryOp .Not a pos) (tE X.K (eF f)):=(UW ha).weak fun σ H Q ⟨Z,Θ,env,C,r,env',C',S,hf,q⟩=>by
 unfold eF at hf
 split at hf
 ·rename_i b e1 C1 h1
  cases hf
  exact ⟨Z,Θ,env,C,_,e1,C',S,h1,fun v H1 k1 f1 R1=>⟨b,R1.2,q _ H1 k1 (Fz.refl _) ⟨S.go k1 R1.1.cell,rfl⟩⟩⟩
 ·cases hf
theorem Ub {t:FT} {f g:FE} (hc:PT X c (pY X.K t)) (ha:PE X a (tE X.K f)) (hb:PE X b (tE X.K g)):PE X (.IfExp c a b pos) (tE X.K (iG t f g)):=(Ls hc ha hb).weak fun σ H Q ⟨Z,Θ,env,C,r,env',C',S,hf,q⟩=>by
 unfold iG at hf
 split at hf
 ·rename_i C1 h1
  exact ⟨Z,Θ,env,C,true,C1,S,h1,fun H1 k1 S1=>Al ⟨Z,Θ,env,C1,r,env',C',S1,hf,fun w H2 k2 f2 R2=>q w H2 (k1.trans k2) f2 (R2.from k1)⟩⟩
 ·rename_i C1 h1
  exact ⟨Z,Θ,env,C,false,C1,S,h1,fun H1 k1 S1=>Ak ⟨Z,Θ,env,C1,r,env',C',S1,hf,fun w H2 k2 f2 R2=>q w H2 (k1.trans k2) f2 (R2.from k1)⟩⟩
 ·cases hf
theorem V5 {f:FB} (ha:PE X a (nG X.K f)):PE X (.UnaryOp .USub a pos) (tE X.K (iH f)):=(Xl Vc ha).weak fun σ H Q ⟨Z,Θ,env,C,r,env',C',S,hf,q⟩=>by
 unfold iH at hf
 split at hf
 ·rename_i i e1 C1 h1
  cases hf
  exact ⟨Z,Θ,env,C,_,e1,C',S,h1,fun v H1 k1 f1 S1 b1=>⟨i,b1,q _ H1 k1 (Fz.refl _) ⟨S.go k1 S1.cell,rfl⟩⟩⟩
 ·cases hf
end
def rZ (K:PySem.W.Frag) (E:Hp) (Θ:List Addr):Vl→V→Prop
 | .im d,v=>RZ E d v
 | .ow _,_=>False
 | .ce n,v=>∃a,v=.ref a∧Θ[n]?=some a
 | .sc ns,v=>∃a,v=.ref a∧dW K E a (ns.map V.int)
inductive jL (K:PySem.W.Frag) (E:Hp) (Θ:List Addr):List Vl→List V→Prop
 | nil:jL K E Θ [] []
 | cons {x:Vl} {v:V} {xs:List Vl} {vs:List V}:rZ K E Θ x v→jL K E Θ xs vs→jL K E Θ (x::xs) (v::vs)
theorem rZ.same {K:PySem.W.Frag} {E E':Hp} {Θ:List Addr} (s:bz E E') {x:Vl} {v:V} (h:rZ K E Θ x v):rZ K E' Θ x v:=by
 cases x with
 | im d=>exact RZ.same s h
 | ow d=>exact h
 | ce n=>exact h
 | sc ns=>obtain ⟨a,e,q⟩:=h; exact ⟨a,e,s.seq q⟩
theorem jL.same {K:PySem.W.Frag} {E E':Hp} {Θ:List Addr} (s:bz E E') {xs:List Vl} {vs:List V} (h:jL K E Θ xs vs):jL K E' Θ xs vs:=by
 induction h with
 | nil=>exact .nil
 | cons a _ ih=>exact .cons (a.same s) ih
def V6 (K:PySem.W.Frag) (f:FA):TA:=fun σ H Q=>∃Z Θ env C xs env' C',Sm K Z Θ env C σ H∧f env C=some (xs,env',C')∧
 ∀vs H',cg Θ H H'→Fz env env'→Sm K Z Θ env' C' σ H'→jL K (er (aV Z Θ env' σ) H') Θ xs vs→Q vs H'
def aG:FA:=fun env C=>some ([],env,C)
def aa (f:FE) (g:FA):FA:=fun env C=>match f env C with
 | some (r,e1,C1)=>match g e1 C1 with
  | some (xs,e2,C2)=>some (still r::xs,e2,C2)
  | none=>none
 | none=>none
def bF:Qn:=fun env C=>some ([],env,C)
def aP (f:FB) (g:Qn):Qn:=fun env C=>match f env C with
 | some (d,e1,C1)=>match g e1 C1 with
  | some (ds,e2,C2)=>some (d::ds,e2,C2)
  | none=>none
 | none=>none
theorem Res.arg {K:PySem.W.Frag} {Z Θ:List Addr} {env:En} {C:Ce} {σ:St} {H H':Hp} {r:Vl} {v:V} (h:Res K Z Θ env C σ H H' r v):Sm K Z Θ env C σ H'∧rZ K (er (aV Z Θ env σ) H') Θ (L2.still r) v:=by
 have g:=h.still
 cases r with
 | im d=>exact g
 | ow d=>exact g
 | ce n=>exact g
 | sc ns=>exact g
theorem GJ.same {E E' T T':Hp} (s:bz E E') (t:bz T T') {ds:List PyData} {vs:List V} (h:GJ E T ds vs):GJ E' T' ds vs:=by
 induction h with
 | nil=>exact .nil
 | cons a _ ih=>exact .cons (a.same s t) ih
section
variable {X:Cx} {e:Expr} {es:List Expr} {pos:Pos}
theorem aJ:PA X [] (V6 X.K aG):=lY.weak fun σ H Q ⟨Z,Θ,env,C,xs,env',C',S,hf,q⟩=>by
 cases hf
 exact q [] H (cg.refl _ _) (Fz.refl _) S .nil
theorem aj {f:FE} {g:FA} (h:PE X e (tE X.K f)) (hr:PA X es (V6 X.K g)) (hs:starEach (e::es) X.env=(false,eval e X.env)::starEach es X.env:=by rfl):PA X (e::es) (V6 X.K (aa f g)):=(gw h hr hs).weak fun σ H Q ⟨Z,Θ,env,C,xs,env',C',S,hf,q⟩=>by
 unfold aa at hf
 split at hf
 ·rename_i r e1 C1 h1
  split at hf
  ·rename_i ys e2 C2 h2
   cases hf
   refine ⟨Z,Θ,env,C,r,e1,C1,S,h1,fun v H1 k1 f1 R1=>?_⟩
   obtain ⟨S1,a1⟩:=R1.arg
   exact ⟨Z,Θ,e1,C1,ys,env',C',S1,h2,fun vs H2 k2 f2 S2 a2=>q _ H2 (k1.trans k2) (f1.trans f2) S2 (.cons (a1.same (Nz S1 k2 f2)) a2)⟩
  ·cases hf
 ·cases hf
theorem bR:PA X [] (VP X.K bF):=lY.weak fun σ H Q ⟨Z,Θ,env,C,xs,env',C',S,hf,q⟩=>by
 cases hf
 exact q [] H (cg.refl _ _) (Fz.refl _) S .nil
theorem bu {f:FB} {g:Qn} (h:PE X e (nG X.K f)) (hr:PA X es (VP X.K g)) (hs:starEach (e::es) X.env=(false,eval e X.env)::starEach es X.env:=by rfl):PA X (e::es) (VP X.K (aP f g)):=(gw h hr hs).weak fun σ H Q ⟨Z,Θ,env,C,xs,env',C',S,hf,q⟩=>by
 unfold aP at hf
 split at hf
 ·rename_i d e1 C1 h1
  split at hf
  ·rename_i ys e2 C2 h2
   cases hf
   exact ⟨Z,Θ,env,C,d,e1,C1,S,h1,fun v H1 k1 f1 S1 b1=>⟨Z,Θ,e1,C1,ys,env',C',S1,h2,fun vs H2 k2 f2 S2 b2=>q _ H2 (k1.trans k2) (f1.trans f2) S2 (.cons (b1.go S1 k2 f2) b2)⟩⟩
  ·cases hf
 ·cases hf
end
def dG:List Vl→Option (List PyData)
 | []=>some []
 | .im d::r=>match dG r with
  | some ds=>some (d::ds)
  | none=>none
 | _=>none
theorem wV {K:PySem.W.Frag} {E:Hp} {Θ:List Addr}:∀{xs:List Vl} {ds:List PyData} {vs:List V},dG xs=some ds→jL K E Θ xs vs→g8 E ds vs
 | [],ds,vs,h,a=>by cases h; cases a; rfl
 | .im d::r,ds,vs,h,a=>by
  unfold dG at h
  split at h
  ·rename_i t ht
   cases h
   cases a with
   | cons a1 a2=>exact ⟨_,_,rfl,a1,wV ht a2⟩
  ·cases h
 | .ow _::r,ds,vs,h,a=>by cases h
 | .ce _::r,ds,vs,h,a=>by cases h
 | .sc _::r,ds,vs,h,a=>by cases h
def bH (g:FA):FE:=fun env C=>match g env C with
 | some (xs,e',C')=>match dG xs with
  | some ds=>if ds.length≤jA then some (.ow (.list ds),e',C') else none
  | none=>none
 | none=>none
def fQ (g:FA):FE:=fun env C=>match g env C with
 | some (xs,e',C')=>match dG xs with
  | some ds=>if ds.length≤jA then some (.im (.tuple ds),e',C') else none
  | none=>none
 | none=>none
section
variable {X:Cx} {e:Expr} {es:List Expr} {pos:Pos}
theorem cC {g:FA} (h:PA X es (V6 X.K g)):PE X (.List es pos) (tE X.K (bH g)):=(Vh h).weak fun σ H Q ⟨Z,Θ,env,C,r,env',C',S,hf,q⟩=>by
 unfold bH at hf
 split at hf
 ·rename_i xs e1 C1 h1
  split at hf
  ·rename_i ds hd
   split at hf
   ·rename_i hl
    cases hf
    refine ⟨Z,Θ,env,C,xs,env',C',S,h1,fun vs H1 k1 f1 S1 a1=>?_⟩
    have r:=wV hd a1
    exact ⟨by rw [cG r]; exact gk hl,fun p hp=>q _ _ (k1.trans (cg.upd hp)) f1 ((gb S1 r hp).from k1)⟩
   ·cases hf
  ·cases hf
 ·cases hf
theorem pG {x1} {g:FA} (h:PA X es (V6 X.K g)):PE X (.Tuple es x1 pos) (tE X.K (fQ g)):=(FQ h).weak fun σ H Q ⟨Z,Θ,env,C,r,env',C',S,hf,q⟩=>by
 unfold fQ at hf
 split at hf
 ·rename_i xs e1 C1 h1
  split at hf
  ·rename_i ds hd
   split at hf
   ·rename_i hl
    cases hf
    refine ⟨Z,Θ,env,C,xs,env',C',S,h1,fun vs H1 k1 f1 S1 a1=>?_⟩
    have r:=wV hd a1
    exact ⟨by rw [cG r]; exact gk hl,fun p hp=>q _ _ (k1.trans (cg.upd hp)) f1 ((vz S1 r hp).from k1)⟩
   ·cases hf
  ·cases hf
 ·cases hf
def cI:FE:=fun env C=>some (.ow (.dict []),env,C)
theorem DK:PE X (.Dict [] [] pos) (tE X.K cI):=Mu.weak fun σ H Q ⟨Z,Θ,env,C,r,env',C',S,hf,q⟩=>by
 cases hf
 exact fun p hp=>q _ _ (cg.upd hp) (Fz.refl _) (Ro (vs:=[]) S (fun _ z=>nomatch z) (.inl ⟨[],rfl,aX⟩) rfl hp)
end
def zq (K:PySem.W.Frag) (r:List V→Hp→VK→Prop) (op:List PyData→Option Vl):Prop:=
 ∀(Z Θ:List Addr) (env:En) (C:Ce) (σ:St) (H:Hp) (xs:List V) (ds:List PyData) (res:Vl),Sm K Z Θ env C σ H→IK Z Θ env σ H ds xs→op ds=some res→
  ∀Q:VK,(∀v H',cg Θ H H'→Res K Z Θ env C σ H H' res v→Q v H')→r xs H Q
def bC (op:List PyData→Option Vl) (g:Qn):FE:=fun env C=>match g env C with
 | some (ds,e',C')=>match op ds with
  | some r=>some (r,rst r env e',C')
  | none=>none
 | none=>none
theorem DN {K:PySem.W.Frag} {r:List V→Hp→VK→Prop} {op:List PyData→Option Vl} (L:zq K r op) {g:Qn}:∀σ H Q,tE K (bC op g) σ H Q→Z0 r (VP K g) σ H Q:=by
 rintro σ H Q ⟨Z,Θ,env,C,res,env',C',S,hf,q⟩
 unfold bC at hf
 split at hf
 ·rename_i ds e1 C1 h1
  split at hf
  ·rename_i r0 h2
   cases hf
   refine ⟨Z,Θ,env,C,ds,e1,C',S,h1,fun vs H1 k1 f1 S1 b1=>L Z Θ e1 C' σ H1 vs ds res S1 b1 h2 Q fun z H2 k2 R=>?_⟩
   exact q z H2 (k1.trans k2) (f1.rst res) ((R.from k1).rst S (k1.trans k2))
  ·cases hf
 ·cases hf
section
variable {X:Cx} {x:Str} {p pos:Pos} {e:Expr} {es:List Expr} {g:Qn} {id T:String} {r:List V→Hp→VK→Prop} {op:List PyData→Option Vl}
theorem cH (hc:dF X (.builtin id) r) (L:zq X.K r op) (hg:Gl X x) (hm:X.mg x=none) (hv:bootBuiltins x=some (.builtin id)) (ha:PA X (e::es) (VP X.K g)) (hn:x≠"__name__":=by decide) (hdb:(x==("__debug__":Str))=false:=by decide)
  (he:starEach (e::es) X.env=(false,eval e X.env)::starEach es X.env:=by rfl) (hpl:(backTo pos (starEach es X.env)).any (·.1)=false:=by rfl):PE X (.Call (.Name x p) (e::es) [] pos) (tE X.K (bC op g)):=(rF hc hg hm hv ha hn hdb he hpl).weak (DN L)
theorem j7 (hc:dF X (.type T) r) (L:zq X.K r op) (hg:Gl X x) (hm:X.mg x=none) (hv:bootBuiltins x=some (.type T)) (ha:PA X (e::es) (VP X.K g)) (hn:x≠"__name__":=by decide) (hdb:(x==("__debug__":Str))=false:=by decide)
  (he:starEach (e::es) X.env=(false,eval e X.env)::starEach es X.env:=by rfl) (hpl:(backTo pos (starEach es X.env)).any (·.1)=false:=by rfl):PE X (.Call (.Name x p) (e::es) [] pos) (tE X.K (bC op g)):=(J8 hc hg hm hv ha hn hdb he hpl).weak (DN L)
end
abbrev FN:=List Vl→Ce→Option (Vl×Ce)
def spT (K:PySem.W.Frag) (f:FN):Sp:=fun vs H Q _=>∃Z Θ C xs r C',Sm K Z Θ [] C [] H∧jL K (er (aV Z Θ [] []) H) Θ xs vs∧f xs C=some (r,C')∧
 ∀v H',cg Θ H H'→Res K Z Θ [] C' [] H H' r v→Q v H'
def aU (f:FN) (g:FA):FE:=fun env C=>match g env C with
 | some (xs,e',C1)=>match f xs C1 with
  | some (r,C2)=>some (r,rst r env e',C2)
  | none=>none
 | none=>none
theorem jM {P P':List Addr} {H:Hp} (h:∀a,a∈P ↔ a∈P'):er P H=er P' H:=by
 funext b
 unfold er
 by_cases hb:b∈P
 ·rw [if_pos hb,if_pos ((h b).mp hb)]
 ·rw [if_neg hb,if_neg (fun z=>hb ((h b).mpr z))]
theorem Bc {Z Θ:List Addr} {env:En} {σ:St} (a:Addr):a∈aV (Z++bJ env σ) Θ [] [] ↔ a∈aV Z Θ env σ:=by
 simp only [aV,bJ,List.mem_append,List.append_nil]
 constructor
 ·rintro ((h | h) | h)
  ·exact .inl h
  ·exact .inr (.inr h)
  ·exact .inr (.inl h)
 ·rintro (h | h | h)
  ·exact .inl (.inl h)
  ·exact .inr h
  ·exact .inl (.inr h)
section
variable {K:PySem.W.Frag} {Z Θ:List Addr} {env:En} {C C':Ce} {σ:St} {H H':Hp} {a:Addr}
theorem Sm.DP (S:Sm K Z Θ env C σ H) (ha:H a=none) (k:cg Θ H H') (h':NT (H' a)) (c:jj Θ C' H'):Sm K (a::Z) Θ env C' σ H':=by
 have sm:bz (er (aV Z Θ env σ) H) (er (aV (a::Z) Θ env σ) H'):=iM k S.KJ fun b m=>by
  rcases List.mem_cons.mp m with rfl | m
  ·exact .inr ha
  ·exact .inl m
 refine ⟨S.len,List.nodup_cons.mpr ⟨fun m=>S.Du a m ha,S.nd⟩,fun b m=>?_,fun i x e=>?_,c⟩
 ·rcases List.mem_cons.mp m with rfl | m
  ·exact h'
  ·obtain ⟨u,e,n⟩:=S.dom b m
   exact ⟨u,k.keep _ _ e fun z=>by
    have h:=S.nd
    rw [List.nodup_append] at h
    exact h.2.2 b m b (List.mem_append_left _ z) rfl,n⟩
 ·obtain ⟨v,e1,r⟩:=S.slot i x e
  refine ⟨v,e1,r.same sm fun d b ex ev o' ho=>k.keep _ _ ho ?_⟩
  subst ex ev
  exact (S.ie (di.mpr ⟨i,d,e,e1⟩)).2
theorem Sm.bare (S:Sm K Z Θ env C σ H):Sm K (Z++bJ env σ) Θ [] C [] H:=by
 refine ⟨rfl,?_,fun b m=>?_,fun i x e=>by simp at e,S.cell⟩
 ·have h:=S.nd
  show ((Z++bJ env σ)++(Θ++[])).Nodup
  rw [List.append_nil,List.append_assoc]
  have p:(Z++(Θ++bJ env σ)).Perm (Z++(bJ env σ++Θ)):=List.Perm.append_left Z List.perm_append_comm
  exact p.nodup h
 ·rcases List.mem_append.mp m with m | m
  ·exact S.dom b m
  ·exact S.Zd b (List.mem_append_right _ (List.mem_append_right _ m))
theorem Res.back {r:Vl} {v:V} (S:Sm K Z Θ env C σ H) (k:cg Θ H H') (h:Res K (Z++bJ env σ) Θ [] C' [] H H' r v):Res K Z Θ env C' σ H H' r v:=by
 have e1:er (aV (Z++bJ env σ) Θ [] []) H'=er (aV Z Θ env σ) H':=jM Bc
 cases r with
 | im d=>
  obtain ⟨S',r⟩:=h
  rw [e1] at r
  exact ⟨S.go k S'.cell,r⟩
 | ow d=>
  obtain ⟨a,rfl,hn,S',r⟩:=h
  have e2:er (aV (a::(Z++bJ env σ)) Θ [] []) H'=er (aV (a::Z) Θ env σ) H':=jM fun b=>by
   show b∈a::aV (Z++bJ env σ) Θ [] [] ↔ b∈a::aV Z Θ env σ
   rw [List.mem_cons,List.mem_cons,Bc]
  rw [e2] at r
  exact ⟨a,rfl,hn,S.DP hn k (S'.dom a List.mem_cons_self) S'.cell,r⟩
 | ce n=>exact ⟨S.go k h.1.cell,h.2⟩
 | sc ns=>
  obtain ⟨S',a,rfl,q⟩:=h
  rw [e1] at q
  exact ⟨S.go k S'.cell,a,rfl,q⟩
end
section
variable {X:Cx} {x:Str} {k:Nat} {ps:List Str} {p pos:Pos} {e:Expr} {es:List Expr} {f:FN} {g:FA}
theorem Oc {K:PySem.W.Frag}:∀σ H Q,tE K (aU f g) σ H Q→Mm (spT K f) [] E0 (V6 K g) σ H Q:=by
 rintro σ H Q ⟨Z,Θ,env,C,res,env',C',S,hf,q⟩
 unfold aU at hf
 split at hf
 ·rename_i xs e1 C1 h1
  split at hf
  ·rename_i r C2 h2
   cases hf
   refine ⟨Z,Θ,env,C,xs,e1,C1,S,h1,fun vs H1 k1 f1 S1 a1=>?_⟩
   show spT K f (vs++[]) H1 Q E0
   rw [List.append_nil]
   have e2:er (aV (Z++bJ e1 σ) Θ [] []) H1=er (aV Z Θ e1 σ) H1:=jM Bc
   rw [←e2] at a1
   exact ⟨Z++bJ e1 σ,Θ,C1,xs,res,C',S1.bare,a1,h2,fun v H2 k2 R=>q v H2 (k1.trans k2) (f1.rst res) (((R.back S1 k2).from k1).rst S (k1.trans k2))⟩
  ·cases hf
 ·cases hf
theorem bI (F:nA X.prog X.w X.K X.mg X.base x k ps (spT X.K f)) (hr:jh k X.A) (hg:Gl X x) (ha:PA X (e::es) (V6 X.K g)) (hdb:(x==("__debug__":Str))=false:=by decide)
  (he:starEach (e::es) X.env=(false,eval e X.env)::starEach es X.env:=by rfl) (hpl:(backTo pos (starEach es X.env)).any (·.1)=false:=by rfl):PE X (.Call (.Name x p) (e::es) [] pos) (tE X.K (aU f g)):=(XX F hr hg ha hdb he hpl).weak Oc
end
end L2
set_option maxHeartbeats 4000000
namespace L2
open PySem PySem.Spec PyProof.Rows PySem.W
theorem um:∀{env:En} {σ:St},(∀(i j:Nat) (d e:PyData) (a:Addr),env[i]?=some (some (Vl.ow d))→σ[i]?=some (some (V.ref a))→env[j]?=some (some (Vl.ow e))→σ[j]?=some (some (V.ref a))→i=j)→(bJ env σ).Nodup
 | [],σ,_=>by cases σ <;> exact List.nodup_nil
 | _::_,[],_=>List.nodup_nil
 | x::en,v::s,h=>by
  rw [bJ,List.nodup_append]
  refine ⟨?_,um fun i j d e a h1 h2 h3 h4=>?_,fun a ha b hb e=>?_⟩
  ·unfold own1
   split
   ·exact List.nodup_cons.mpr ⟨by simp,List.nodup_nil⟩
   ·exact List.nodup_nil
  ·have:=h (i + 1) (j + 1) d e a (by simpa using h1) (by simpa using h2) (by simpa using h3) (by simpa using h4)
   omega
  ·subst e
   unfold own1 at ha
   split at ha
   ·rw [List.mem_singleton] at ha
    subst ha
    obtain ⟨j,d,h1,h2⟩:=di.mp hb
    have:=h 0 (j + 1) _ d a rfl rfl (by simpa using h1) (by simpa using h2)
    omega
   ·simp at ha
theorem get_set {α:Type} {l:List α} {i j:Nat} {x y:α} (h:(l.set i x)[j]?=some y):(j=i∧y=x∧i < l.length)∨(j≠i∧l[j]?=some y):=by
 by_cases e:i=j
 ·subst e
  rw [List.getElem?_set,if_pos rfl] at h
  split at h
  ·rename_i hl; cases h; exact .inl ⟨rfl,rfl,hl⟩
  ·cases h
 ·rw [List.getElem?_set_ne e] at h
  exact .inr ⟨fun z=>e z.symm,h⟩
theorem Jc {α:Type} {l:List α} {i:Nat} {x:α} (h:i < l.length):(l.set i x)[i]?=some x:=by
 rw [List.getElem?_set,if_pos rfl,if_pos h]
theorem nM {env:En} {σ:St} {i:Nat} {x:Vl} {v:V} {a:Addr} (h:a∈bJ (env.set i (some x)) (σ.set i (some v))):a∈bJ env σ∨(∃d,x=.ow d)∧v=.ref a:=by
 obtain ⟨j,d,h1,h2⟩:=di.mp h
 rcases get_set h1 with ⟨rfl,e,_⟩ | ⟨n,h1⟩
 ·rcases get_set h2 with ⟨_,e2,_⟩ | ⟨n,_⟩
  ·cases e; cases e2; exact .inr ⟨⟨d,rfl⟩,rfl⟩
  ·exact absurd rfl n
 ·rcases get_set h2 with ⟨e,_,_⟩ | ⟨_,h2⟩
  ·exact absurd e n
  ·exact .inl (di.mpr ⟨j,d,h1,h2⟩)
section
variable {K:PySem.W.Frag} {Z Θ:List Addr} {env:En} {C:Ce} {σ:St} {H:Hp} {a:Addr} {i:Nat} {v:V}
theorem Sm.lF (S:Sm K Z Θ env C σ H):Z.Nodup∧Θ.Nodup∧(bJ env σ).Nodup∧(∀b∈Z,b∉Θ):=by
 have h:=S.nd
 rw [List.nodup_append,List.nodup_append] at h
 obtain ⟨h1,⟨h2,h3,_⟩,h4⟩:=h
 exact ⟨h1,h2,h3,fun b m m'=>h4 b m b (List.mem_append_left _ m') rfl⟩
theorem V7 {Z Θ O:List Addr} (h1:Z.Nodup) (h2:Θ.Nodup) (h3:O.Nodup) (h4:∀b∈Z,b∉Θ) (h5:∀b∈O,b∉Z∧b∉Θ):(Z++(Θ++O)).Nodup:=by
 rw [List.nodup_append,List.nodup_append]
 refine ⟨h1,⟨h2,h3,fun b m c m' e=>?_⟩,fun b m c m' e=>?_⟩
 ·subst e; exact (h5 b m').2 m
 ·subst e
  rcases List.mem_append.mp m' with m' | m'
  ·exact h4 b m m'
  ·exact (h5 b m').1 m
theorem Sm.KY (S:Sm K Z Θ env C σ H) {x:Vl} (hx:∀d,x≠.ow d) (r:KH K (er (aV Z Θ env σ) H) H Θ x v):Sm K Z Θ (env.set i (some x)) C (σ.set i (some v)) H:=by
 have sub:∀b,b∈bJ (env.set i (some x)) (σ.set i (some v))→b∈bJ env σ:=fun b m=>by
  rcases nM m with m | ⟨⟨d,e⟩,_⟩
  ·exact m
  ·exact absurd e (hx d)
 have lF:=S.lF
 have sm:bz (er (aV Z Θ env σ) H) (er (aV Z Θ (env.set i (some x)) (σ.set i (some v))) H):=lZ fun b m=>by
  rcases List.mem_append.mp m with m | m
  ·exact List.mem_append_left _ m
  ·rcases List.mem_append.mp m with m | m
   ·exact List.mem_append_right _ (List.mem_append_left _ m)
   ·exact List.mem_append_right _ (List.mem_append_right _ (sub b m))
 refine ⟨by rw [List.length_set,List.length_set]; exact S.len,?_,S.dom,fun j y e=>?_,S.cell⟩
 ·refine V7 lF.1 lF.2.1 (um fun p q d e b h1 h2 h3 h4=>?_) lF.2.2.2 fun b m=>S.ie (sub b m)
  rcases get_set h1 with ⟨rfl,e1,_⟩ | ⟨n1,h1⟩
  ·cases e1; exact absurd rfl (hx d)
  ·rcases get_set h3 with ⟨rfl,e1,_⟩ | ⟨n2,h3⟩
   ·cases e1; exact absurd rfl (hx e)
   ·rcases get_set h2 with ⟨e2,_,_⟩ | ⟨_,h2⟩
    ·exact absurd e2 n1
    ·rcases get_set h4 with ⟨e4,_,_⟩ | ⟨_,h4⟩
     ·exact absurd e4 n2
     ·exact rW lF.2.2.1 h1 h2 h3 h4
 ·rcases get_set e with ⟨rfl,e1,hl⟩ | ⟨n,e⟩
  ·cases e1
   exact ⟨v,Jc (by rw [S.len]; exact hl),r.same sm fun d b ex _=>absurd ex (hx d)⟩
  ·obtain ⟨u,e1,r1⟩:=S.slot j y e
   exact ⟨u,by rw [List.getElem?_set_ne (Ne.symm n)]; exact e1,r1.same sm fun _ _ _ _ _ h=>h⟩
theorem Sm.Yr (S:Sm K (a::Z) Θ env C σ H) {d:PyData} (r:pD (er (aV (a::Z) Θ env σ) H) H a d):Sm K Z Θ (env.set i (some (.ow d))) C (σ.set i (some (.ref a))) H:=by
 have sub:∀b,b∈bJ (env.set i (some (.ow d))) (σ.set i (some (.ref a)))→b∈bJ env σ∨b=a:=fun b m=>by
  rcases nM m with m | ⟨_,e⟩
  ·exact .inl m
  ·cases e; exact .inr rfl
 have lF:=S.lF
 have Ys:=List.nodup_cons.mp lF.1
 have sm:bz (er (aV (a::Z) Θ env σ) H) (er (aV Z Θ (env.set i (some (.ow d))) (σ.set i (some (.ref a)))) H):=lZ fun b m=>by
  rcases List.mem_append.mp m with m | m
  ·exact List.mem_append_left _ (List.mem_cons_of_mem _ m)
  ·rcases List.mem_append.mp m with m | m
   ·exact List.mem_append_right _ (List.mem_append_left _ m)
   ·rcases sub b m with m | rfl
    ·exact List.mem_append_right _ (List.mem_append_right _ m)
    ·exact List.mem_append_left _ List.mem_cons_self
 have Yt:a∉bJ env σ:=fun m=>(S.ie m).1 List.mem_cons_self
 refine ⟨by rw [List.length_set,List.length_set]; exact S.len,?_,fun b m=>S.dom b (List.mem_cons_of_mem _ m),fun j y e=>?_,S.cell⟩
 ·refine V7 Ys.2 lF.2.1 (um fun p q d1 e b h1 h2 h3 h4=>?_) (fun b m=>lF.2.2.2 b (List.mem_cons_of_mem _ m)) fun b m=>?_
  ·rcases get_set h1 with ⟨rfl,e1,_⟩ | ⟨n1,h1⟩
   ·rcases get_set h3 with ⟨e3,_,_⟩ | ⟨n2,h3⟩
    ·exact e3.symm
    ·rcases get_set h2 with ⟨_,e2,_⟩ | ⟨n,_⟩
     ·cases e2
      rcases get_set h4 with ⟨e4,_,_⟩ | ⟨_,h4⟩
      ·exact e4.symm
      ·exact absurd (di.mpr ⟨q,e,h3,h4⟩) Yt
     ·exact absurd rfl n
   ·rcases get_set h2 with ⟨e2,_,_⟩ | ⟨_,h2'⟩
    ·exact absurd e2 n1
    ·have mp:=di.mpr ⟨p,d1,h1,h2'⟩
     rcases get_set h3 with ⟨rfl,e3,_⟩ | ⟨n2,h3⟩
     ·rcases get_set h4 with ⟨_,e4,_⟩ | ⟨n,_⟩
      ·cases e4
       exact absurd mp Yt
      ·exact absurd rfl n
     ·rcases get_set h4 with ⟨e4,_,_⟩ | ⟨_,h4⟩
      ·exact absurd e4 n2
      ·exact rW lF.2.2.1 h1 h2' h3 h4
  ·rcases sub b m with m | rfl
   ·obtain ⟨p,q⟩:=S.ie m
    exact ⟨fun z=>p (List.mem_cons_of_mem _ z),q⟩
   ·exact ⟨Ys.1,lF.2.2.2 b List.mem_cons_self⟩
 ·rcases get_set e with ⟨rfl,e1,hl⟩ | ⟨n,e⟩
  ·cases e1
   exact ⟨_,Jc (by rw [S.len]; exact hl),a,rfl,r.same sm fun _ h=>h⟩
  ·obtain ⟨u,e1,r1⟩:=S.slot j y e
   exact ⟨u,by rw [List.getElem?_set_ne (Ne.symm n)]; exact e1,r1.same sm fun _ _ _ _ _ h=>h⟩
theorem Res.set {H0:Hp} {r:Vl} (h:Res K Z Θ env C σ H0 H r v):Sm K Z Θ (env.set i (some r)) C (σ.set i (some v)) H:=by
 cases r with
 | im d=>exact h.1.KY (fun _ e=>nomatch e) h.2
 | ow d=>obtain ⟨a,rfl,_,S,r⟩:=h; exact S.Yr r
 | ce n=>exact h.1.KY (fun _ e=>nomatch e) h.2
 | sc ns=>exact h.1.KY (fun _ e=>nomatch e) h.2
end
inductive Fl where
 | nx | rt (r:Vl) | bk | ct
abbrev FS:=En→Ce→Option (Fl×En×Ce)
structure Bd (Θ Θ':List Addr) (H:Hp):Prop where
 ex:∃Δ,Θ'=Θ++Δ∧∀a∈Δ,H a=none
theorem Bd.refl (Θ:List Addr) (H:Hp):Bd Θ Θ H:=⟨[],by rw [List.append_nil],fun _ m=>nomatch m⟩
structure lJ (K:PySem.W.Frag) (Z Θ:List Addr) (env:En) (σ:St) (H:Hp) (Θ':List Addr) (env':En) (C':Ce) (σ':St) (H':Hp):Prop where
 th:Bd Θ Θ' H
 kp:cg (Θ++bJ env σ) H H'
 own:∀a∈bJ env' σ',a∈bJ env σ∨H a=none
 sm:Sm K Z Θ' env' C' σ' H'
def Jd (K:PySem.W.Frag) (Z Θ:List Addr) (C:Ce) (own:List Addr) (H H':Hp):Vl→V→Prop
 | .im d,v=>Sm K Z Θ [] C [] H'∧RZ (er (aV Z Θ [] []) H') d v
 | .ow d,v=>∃a,v=.ref a∧(a∈own∨H a=none)∧Sm K (a::Z) Θ [] C [] H'∧pD (er (aV (a::Z) Θ [] []) H') H' a d
 | .ce n,v=>Sm K Z Θ [] C [] H'∧∃a,v=.ref a∧Θ[n]?=some a
 | .sc ns,v=>Sm K Z Θ [] C [] H'∧∃a,v=.ref a∧dW K (er (aV Z Θ [] []) H') a (ns.map V.int)
structure RtP (K:PySem.W.Frag) (Z Θ:List Addr) (env:En) (σ:St) (H:Hp) (Θ':List Addr) (C':Ce) (r:Vl) (v:V) (H':Hp):Prop where
 th:Bd Θ Θ' H
 kp:cg (Θ++bJ env σ) H H'
 ok:Jd K Z Θ' C' (bJ env σ) H H' r v
def Ru (K:PySem.W.Frag) (Z Θ:List Addr) (env:En) (σ:St) (H:Hp) (env':En) (C':Ce) (D:Ends):Fl→Prop
 | .nx=>∀Θ' σ' H',lJ K Z Θ env σ H Θ' env' C' σ' H'→D.nx σ' H'
 | .bk=>∀Θ' σ' H',lJ K Z Θ env σ H Θ' env' C' σ' H'→D.bk σ' H'
 | .ct=>∀Θ' σ' H',lJ K Z Θ env σ H Θ' env' C' σ' H'→D.ct σ' H'
 | .rt r=>∀Θ' v H',RtP K Z Θ env σ H Θ' C' r v H'→D.rt v H'
def tS (K:PySem.W.Frag) (f:FS):TS:=fun D σ H=>∃Z Θ env C fl env' C',Sm K Z Θ env C σ H∧f env C=some (fl,env',C')∧Ru K Z Θ env σ H env' C' D fl
section
variable {K:PySem.W.Frag} {Z Θ Θ1 Θ2:List Addr} {env e1 e2:En} {C C1 C2:Ce} {σ σ1 σ2:St} {H H1 H2:Hp}
theorem Bd.trans (h:Bd Θ Θ1 H) (k:∀a,H a≠none→H1 a≠none) (g:Bd Θ1 Θ2 H1):Bd Θ Θ2 H:=by
 obtain ⟨Δ,e,n⟩:=h.ex
 obtain ⟨Δ',e',n'⟩:=g.ex
 refine ⟨Δ++Δ',by rw [e',e,List.append_assoc],fun a m=>?_⟩
 rcases List.mem_append.mp m with m | m
 ·exact n a m
 ·cases h:H a with
  | none=>rfl
  | some o=>exact absurd (n' a m) (k a (by rw [h]; exact Option.some_ne_none _))
theorem DQ (th:Bd Θ Θ1 H) (k1:cg (Θ++bJ env σ) H H1) (ow:∀a∈bJ e1 σ1,a∈bJ env σ∨H a=none) (k2:cg (Θ1++bJ e1 σ1) H1 H2):cg (Θ++bJ env σ) H H2:=by
 refine ⟨fun a o e n=>k2.keep a o (k1.keep a o e n) fun m=>n ?_,fun a e=>k2.dom a (k1.dom a e)⟩
 have hn:H a≠none:=by rw [e]; exact Option.some_ne_none _
 rcases List.mem_append.mp m with m | m
 ·obtain ⟨Δ,e',n'⟩:=th.ex
  rw [e'] at m
  rcases List.mem_append.mp m with m | m
  ·exact List.mem_append_left _ m
  ·exact absurd (n' a m) hn
 ·rcases ow a m with m | m
  ·exact List.mem_append_right _ m
  ·exact absurd m hn
theorem lJ.trans (p:lJ K Z Θ env σ H Θ1 e1 C1 σ1 H1) (q:lJ K Z Θ1 e1 σ1 H1 Θ2 e2 C2 σ2 H2):lJ K Z Θ env σ H Θ2 e2 C2 σ2 H2 where
 th:=p.th.trans p.kp.dom q.th
 kp:=DQ p.th p.kp p.own q.kp
 own:=fun a m=>by
  rcases q.own a m with m | m
  ·exact p.own a m
  ·exact .inr (p.kp.none m)
 sm:=q.sm
theorem lJ.ret {r:Vl} {v:V} (p:lJ K Z Θ env σ H Θ1 e1 C1 σ1 H1) (q:RtP K Z Θ1 e1 σ1 H1 Θ2 C2 r v H2):RtP K Z Θ env σ H Θ2 C2 r v H2 where
 th:=p.th.trans p.kp.dom q.th
 kp:=DQ p.th p.kp p.own q.kp
 ok:=by
  have h:=q.ok
  cases r with
  | im d=>exact h
  | ow d=>
   obtain ⟨a,e,m,S,r⟩:=h
   refine ⟨a,e,?_,S,r⟩
   rcases m with m | m
   ·exact p.own a m
   ·exact .inr (p.kp.none m)
  | ce n=>exact h
  | sc ns=>exact h
theorem Ru.trans {D:Ends} {fl:Fl} (p:lJ K Z Θ env σ H Θ1 e1 C1 σ1 H1) (h:Ru K Z Θ env σ H e2 C2 D fl):Ru K Z Θ1 e1 σ1 H1 e2 C2 D fl:=by
 cases fl with
 | nx=>exact fun Θ' σ' H' q=>h Θ' σ' H' (p.trans q)
 | bk=>exact fun Θ' σ' H' q=>h Θ' σ' H' (p.trans q)
 | ct=>exact fun Θ' σ' H' q=>h Θ' σ' H' (p.trans q)
 | rt r=>exact fun Θ' v H' q=>h Θ' v H' (p.ret q)
theorem nO {O:List Addr} (k:cg Θ H H1):cg (Θ++O) H H1:=⟨fun a o e n=>k.keep a o e fun m=>n (List.mem_append_left _ m),k.dom⟩
theorem lJ.Je (k:cg Θ H H1) (f:Fz env e1) (S:Sm K Z Θ e1 C1 σ H1):lJ K Z Θ env σ H Θ e1 C1 σ H1:=
 ⟨Bd.refl _ _,nO k,fun a m=>.inl (f.own.subset m),S⟩
end
def cD:FS:=fun env C=>some (.nx,env,C)
def bw (f g:FS):FS:=fun env C=>match f env C with
 | some (.nx,e1,C1)=>g e1 C1
 | r=>r
def dI (c:FT) (f g:FS):FS:=fun env C=>match c env C with
 | some (true,C1)=>f env C1
 | some (false,C1)=>g env C1
 | none=>none
def dm (f:FE):FS:=fun env C=>match f env C with
 | some (r,e1,C1)=>some (.rt r,e1,C1)
 | none=>none
def cX (i:Nat):FS:=fun env C=>match env[i]? with
 | some (some x)=>some (.rt x,env,C)
 | _=>none
def bQ (i:Nat) (f:FE):FS:=fun env C=>match f env C with
 | some (r,e1,C1)=>some (.nx,e1.set i (some r),C1)
 | none=>none
section
variable {X:Cx} {st:Stmt} {rest:List Stmt} {pos:Pos}
theorem lJ.same {K:PySem.W.Frag} {Z Θ:List Addr} {env:En} {C:Ce} {σ:St} {H:Hp} (S:Sm K Z Θ env C σ H):lJ K Z Θ env σ H Θ env C σ H:=lJ.Je (cg.refl _ _) (Fz.refl _) S
theorem j8:uW X [] (tS X.K cD):=Qy.weak fun D σ H ⟨Z,Θ,env,C,fl,env',C',S,hf,q⟩=>by
 cases hf
 exact q Θ σ H (lJ.same S)
theorem bK {f:FS} (h:PS X st (tS X.K f)):uW X [st] (tS X.K f):=Qz h
theorem Od {K:PySem.W.Frag} {f g:FS}:∀D σ H,tS K (bw f g) D σ H→Xc (tS K f) (tS K g) D σ H:=by
 rintro D σ H ⟨Z,Θ,env,C,fl,env',C',S,hf,q⟩
 unfold bw at hf
 split at hf
 ·rename_i e1 C1 h1
  exact ⟨Z,Θ,env,C,.nx,e1,C1,S,h1,fun Θ1 σ1 H1 p=>⟨Z,Θ1,e1,C1,fl,env',C',p.sm,hf,q.trans p⟩⟩
 ·rename_i hne
  refine ⟨Z,Θ,env,C,fl,env',C',S,hf,?_⟩
  cases fl with
  | nx=>exact absurd hf (hne _ _)
  | bk=>exact q
  | ct=>exact q
  | rt r=>exact q
theorem aN {f g:FS} (h:PS X st (tS X.K f)) (hr:uW X rest (tS X.K g)):uW X (st::rest) (tS X.K (bw f g)):=(Lw h hr).weak Od
theorem pH {c:Expr} {a b:List Stmt} {t:FT} {f g:FS} (hc:PT X c (pY X.K t)) (ha:uW X a (tS X.K f)) (hb:uW X b (tS X.K g)):PS X (.If c a b pos) (tS X.K (dI t f g)):=(Xe hc ha hb).weak fun D σ H ⟨Z,Θ,env,C,fl,env',C',S,hf,q⟩=>by
 unfold dI at hf
 split at hf
 ·rename_i C1 h1
  exact ⟨Z,Θ,env,C,true,C1,S,h1,fun H1 k1 S1=>Al ⟨Z,Θ,env,C1,fl,env',C',S1,hf,q.trans (lJ.Je k1 (Fz.refl _) S1)⟩⟩
 ·rename_i C1 h1
  exact ⟨Z,Θ,env,C,false,C1,S,h1,fun H1 k1 S1=>Ak ⟨Z,Θ,env,C1,fl,env',C',S1,hf,q.trans (lJ.Je k1 (Fz.refl _) S1)⟩⟩
 ·cases hf
theorem Sm.none {K:PySem.W.Frag} {Z Θ:List Addr} {env:En} {C:Ce} {σ:St} {H:Hp} (S:Sm K Z Θ env C σ H):Sm K Z Θ [] C [] H:=by
 have lF:=S.lF
 exact ⟨rfl,V7 lF.1 lF.2.1 List.nodup_nil lF.2.2.2 (fun _ m=>nomatch m),S.dom,fun i x e=>by simp at e,S.cell⟩
theorem pI {Z Θ:List Addr} {env:En} {σ:St} {H:Hp}:bz (er (aV Z Θ env σ) H) (er (aV Z Θ [] []) H):=lZ fun b m=>by
 rcases List.mem_append.mp m with m | m
 ·exact List.mem_append_left _ m
 ·rcases List.mem_append.mp m with m | m
  ·exact List.mem_append_right _ (List.mem_append_left _ m)
  ·nomatch m
theorem Res.ret {K:PySem.W.Frag} {Z Θ:List Addr} {env:En} {C:Ce} {σ:St} {H H':Hp} {O:List Addr} {r:Vl} {v:V} (h:Res K Z Θ env C σ H H' r v):Jd K Z Θ C O H H' r v:=by
 cases r with
 | im d=>exact ⟨h.1.none,h.2.same pI⟩
 | ow d=>obtain ⟨a,e,n,S,r⟩:=h; exact ⟨a,e,.inr n,S.none,r.same pI fun _ h=>h⟩
 | ce n=>exact ⟨h.1.none,h.2⟩
 | sc ns=>obtain ⟨S,a,e,q⟩:=h; exact ⟨S.none,a,e,pI.seq q⟩
theorem fW {e:Expr} {f:FE} (h:PE X e (tE X.K f)):PS X (.Return (some e) pos) (tS X.K (dm f)):=(Lx h).weak fun D σ H ⟨Z,Θ,env,C,fl,env',C',S,hf,q⟩=>by
 unfold dm at hf
 split at hf
 ·rename_i r e1 C1 h1
  cases hf
  exact ⟨Z,Θ,env,C,r,env',C',S,h1,fun v H1 k f R=>q Θ v H1 ⟨Bd.refl _ _,nO k,R.ret⟩⟩
 ·cases hf
theorem pZ {e:Expr} {i:Nat} (h:PE X e (yH i)):PS X (.Return (some e) pos) (tS X.K (cX i)):=(Lx h).weak fun D σ H ⟨Z,Θ,env,C,fl,env',C',S,hf,q⟩=>by
 unfold cX at hf
 split at hf
 ·rename_i x hx
  cases hf
  obtain ⟨v,e1,r⟩:=S.slot i x hx
  refine ⟨v,e1,q Θ v H ⟨Bd.refl _ _,cg.refl _ _,?_⟩⟩
  cases x with
  | im d=>exact ⟨S.none,RZ.same pI r⟩
  | ow d=>
   obtain ⟨a,rfl,r⟩:=r
   have m:a∈bJ env σ:=di.mpr ⟨i,d,hx,e1⟩
   have sm:bz (er (aV Z Θ env σ) H) (er (aV (a::Z) Θ [] []) H):=lZ fun b mb=>by
    rcases List.mem_append.mp mb with mb | mb
    ·rcases List.mem_cons.mp mb with rfl | mb
     ·exact List.mem_append_right _ (List.mem_append_right _ m)
     ·exact List.mem_append_left _ mb
    ·rcases List.mem_append.mp mb with mb | mb
     ·exact List.mem_append_right _ (List.mem_append_left _ mb)
     ·nomatch mb
   have lF:=S.lF
   refine ⟨a,rfl,.inl m,⟨rfl,V7 (List.nodup_cons.mpr ⟨(S.ie m).1,lF.1⟩) lF.2.1 List.nodup_nil (fun b mb=>?_) (fun _ m=>nomatch m),fun b mb=>?_,fun i x e=>by simp at e,S.cell⟩,r.same sm fun _ h=>h⟩
   ·rcases List.mem_cons.mp mb with rfl | mb
    ·exact (S.ie m).2
    ·exact lF.2.2.2 b mb
   ·rcases List.mem_cons.mp mb with rfl | mb
    ·exact r.nt
    ·exact S.dom b mb
  | ce n=>exact ⟨S.none,r⟩
  | sc ns=>obtain ⟨a,e,q⟩:=r; exact ⟨S.none,a,e,pI.seq q⟩
 ·cases hf
theorem wW {K:PySem.W.Frag} {i:Nat} {t:TE} {f:FE} (w:∀σ H Q,tE K f σ H Q→t σ H Q):∀D σ H,tS K (bQ i f) D σ H→JV t (uG i) D σ H:=by
 rintro D σ H ⟨Z,Θ,env,C,fl,env',C',S,hf,q⟩
 unfold bQ at hf
 split at hf
 ·rename_i r e1 C1 h1
  cases hf
  refine w _ _ _ ⟨Z,Θ,env,C,r,e1,C',S,h1,fun v H1 k f R=>q Θ _ H1 ⟨Bd.refl _ _,nO k,fun a m=>?_,R.set⟩⟩
  rcases nM m with m | ⟨⟨d,e⟩,e2⟩
  ·exact .inl (f.own.subset m)
  ·subst e
   obtain ⟨b,e3,n,_⟩:=R
   rw [e2] at e3
   cases e3
   exact .inr n
 ·cases hf
theorem cP {i:Nat} {x:Str} {e:Expr} {f:FE} {pos':Pos} (hN:X.N.Nodup) (hi:X.N[i]?=some x) (hx:Loc X.env.scope x) (he:PE X e (tE X.K f)) (hs:swapsWith e (some (.Name x pos')) pos.line X.env=pure false:=by rfl) (hf:X.fn x=true∨X.env.scope.names.lookup x=some .local:=by first | exact .inl rfl | exact .inr rfl | assumption):
  PS X (.Assign [.Name x pos'] e pos) (tS X.K (bQ i f)):=(LC hN hi hx he hs hf).weak (wW fun _ _ _ h=>h)
end
end L2
set_option maxHeartbeats 4000000
namespace L2
open PySem PySem.Spec PyProof.Rows PySem.W
abbrev FG:=PyData→En→Option En
abbrev V8:=List PyData→En→Option En
def WX (K:PySem.W.Frag) (g:TG) (fg:FG):Prop:=∀(Z Θ:List Addr) (env:En) (C:Ce) (σ:St) (H:Hp) (v:V) (d:PyData) (env':En),Sm K Z Θ env C σ H→RZ (er (aV Z Θ env σ) H) d v→fg d env=some env'→
 ∀Q:St→Hp→Prop,(∀σ',Sm K Z Θ env' C σ' H→(∀a∈bJ env' σ',a∈bJ env σ)→Q σ' H)→g v σ H Q
def Rv (K:PySem.W.Frag) (g:Ly) (fg:V8):Prop:=∀(Z Θ:List Addr) (env:En) (C:Ce) (σ:St) (H:Hp) (vs:List V) (ds:List PyData) (env':En),Sm K Z Θ env C σ H→g8 (er (aV Z Θ env σ) H) ds vs→fg ds env=some env'→
 ∀Q:St→Hp→Prop,(∀σ',Sm K Z Θ env' C σ' H→(∀a∈bJ env' σ',a∈bJ env σ)→Q σ' H)→g vs σ H Q
def gh (i:Nat):FG:=fun d env=>some (env.set i (some (.im d)))
def dH:V8:=fun ds env=>match ds with
 | []=>some env
 | _=>none
def bO (g:FG) (u:V8):V8:=fun ds env=>match ds with
 | d::r=>match g d env with
  | some e1=>u r e1
  | none=>none
 | []=>none
def qw (n:Nat) (u:V8):FG:=fun d env=>match d with
 | .tuple ds=>if ds.length=n then u ds env else none
 | _=>none
theorem Oe {Z Θ:List Addr} {env e1:En} {σ σ1:St} {H:Hp} (h:∀a∈bJ e1 σ1,a∈bJ env σ):bz (er (aV Z Θ env σ) H) (er (aV Z Θ e1 σ1) H):=lZ fun b m=>by
 rcases List.mem_append.mp m with m | m
 ·exact List.mem_append_left _ m
 ·rcases List.mem_append.mp m with m | m
  ·exact List.mem_append_right _ (List.mem_append_left _ m)
  ·exact List.mem_append_right _ (List.mem_append_right _ (h b m))
section
variable {K:PySem.W.Frag}
theorem dM {i:Nat}:WX K (uG i) (gh i):=by
 intro Z Θ env C σ H v d env' S r e Q q
 cases e
 refine q _ (S.KY (fun _ z=>nomatch z) r) fun a m=>?_
 rcases nM m with m | ⟨⟨_,z⟩,_⟩
 ·exact m
 ·cases z
theorem Be:Rv K U0 dH:=by
 intro Z Θ env C σ H vs ds env' S r e Q q
 unfold dH at e
 split at e
 ·cases e
  exact ⟨r,q _ S fun _ m=>m⟩
 ·cases e
theorem mV {g:TG} {u:Ly} {fg:FG} {fu:V8} (h:WX K g fg) (hu:Rv K u fu):Rv K (Lz g u) (bO fg fu):=by
 intro Z Θ env C σ H vs ds env' S r e Q q
 unfold bO at e
 split at e
 ·rename_i d r'
  obtain ⟨v,ws,rfl,r1,r2⟩:=r
  split at e
  ·rename_i e1 h1
   refine ⟨v,ws,rfl,h Z Θ env C σ H v d e1 S r1 h1 _ fun σ1 S1 o1=>?_⟩
   exact hu Z Θ e1 C σ1 H ws r' env' S1 (r2.same (Oe o1)) e Q fun σ2 S2 o2=>q σ2 S2 fun a m=>o1 a (o2 a m)
  ·cases e
 ·cases e
theorem GZ {n:Nat} {u:Ly} {fu:V8} (hu:Rv K u fu):WX K (U3 K n u) (qw n fu):=by
 intro Z Θ env C σ H v d env' S r e Q q
 unfold qw at e
 split at e
 ·rename_i ds
  split at e
  ·rename_i hl
   obtain ⟨a,vs,rfl,ha,r⟩:=r
   exact ⟨a,vs,rfl,jz.of (cj ha),(cG r).trans hl,hu Z Θ env C σ H vs ds env' S r e Q q⟩
  ·cases e
 ·cases e
end
def iR (f:FE) (g:FG):FS:=fun env C=>match f env C with
 | some (r,e1,C1)=>match still r with
  | .im d=>match g d e1 with
   | some e2=>some (.nx,e2,C1)
   | none=>none
  | _=>none
 | none=>none
theorem Res.qx {K:PySem.W.Frag} {Z Θ:List Addr} {env:En} {C:Ce} {σ:St} {H H':Hp} {r:Vl} {v:V} {d:PyData} (h:Res K Z Θ env C σ H H' r v) (e:L2.still r=.im d):Sm K Z Θ env C σ H'∧RZ (er (aV Z Θ env σ) H') d v:=by
 have g:=h.still
 rw [e] at g
 exact g
section
variable {X:Cx} {pos:Pos}
theorem V9 {tg e:Expr} {f:FE} {g:TG} {fg:FG} (he:PE X e (tE X.K f)) (hg:PG X tg g) (L:WX X.K g fg) (hs:swapsWithSole [tg] e pos.line X.env=pure false:=by rfl) (hw:swappedStores [tg] e X.env=pure none:=by rfl) (h1:(assignEach [tg] X.env).map (·.2)=[assign tg X.env]:=by rfl):
  PS X (.Assign [tg] e pos) (tS X.K (iR f fg)):=(Fi he hg hs hw h1).weak fun D σ H ⟨Z,Θ,env,C,fl,env',C',S,hf,q⟩=>by
 unfold iR at hf
 split at hf
 ·rename_i r e1 C1 h1
  split at hf
  ·rename_i d hd
   split at hf
   ·rename_i e2 h2
    cases hf
    refine ⟨Z,Θ,env,C,r,e1,C',S,h1,fun v H1 k f R=>?_⟩
    obtain ⟨S1,r1⟩:=R.qx hd
    exact L Z Θ e1 C' σ H1 v d env' S1 r1 h2 D.nx fun σ' S' o=>q Θ σ' H1 ⟨Bd.refl _ _,nO k,fun a m=>.inl (f.own.subset (o a m)),S'⟩
   ·cases hf
  ·cases hf
 ·cases hf
end
inductive j9 (K:PySem.W.Frag) (E H:Hp) (Θ:List Addr):List Addr→List Vl→List V→Prop
 | nil:j9 K E H Θ [] [] []
 | cons {as:List Addr} {x:Vl} {v:V} {xs:List Vl} {vs:List V}:rZ K E Θ x v→j9 K E H Θ as xs vs→j9 K E H Θ as (x::xs) (v::vs)
 | own {as:List Addr} {a:Addr} {d:PyData} {xs:List Vl} {vs:List V}:pD E H a d→j9 K E H Θ as xs vs→j9 K E H Θ (as++[a]) (.ow d::xs) (.ref a::vs)
theorem j9.same {K:PySem.W.Frag} {E E' H:Hp} {Θ as:List Addr} {xs:List Vl} {vs:List V} (s:bz E E') (h:j9 K E H Θ as xs vs):j9 K E' H Θ as xs vs:=by
 induction h with
 | nil=>exact .nil
 | cons a _ ih=>exact .cons (a.same s) ih
 | own r _ ih=>exact .own (r.same s fun _ h=>h) ih
theorem j9.heap {K:PySem.W.Frag} {E H H':Hp} {Θ as:List Addr} {xs:List Vl} {vs:List V} (s:bz H H') (h:j9 K E H Θ as xs vs):j9 K E H' Θ as xs vs:=by
 induction h with
 | nil=>exact .nil
 | cons a _ ih=>exact .cons a ih
 | own r _ ih=>exact .own (r.same (bz.refl _) fun o ho=>s _ _ ho) ih
def WY (K:PySem.W.Frag) (f:FA):TA:=fun σ H Q=>∃Z Θ env C xs env' C',Sm K Z Θ env C σ H∧f env C=some (xs,env',C')∧
 ∀vs as H',cg Θ H H'→Fz env env'→(∀a∈as,H a=none)→Sm K (as++Z) Θ env' C' σ H'→j9 K (er (aV (as++Z) Θ env' σ) H') H' Θ as xs vs→Q vs H'
def bT (f:FE) (g:FA):FA:=fun env C=>match f env C with
 | some (r,e1,C1)=>match g e1 C1 with
  | some (xs,e2,C2)=>some (r::xs,e2,C2)
  | none=>none
 | none=>none
section
variable {K:PySem.W.Frag} {Z Z' Θ:List Addr} {env:En} {C:Ce} {σ:St} {H:Hp}
theorem bY {a:Addr}:a∈aV Z Θ env σ ↔ a∈Z∨a∈Θ∨a∈bJ env σ:=by rw [List.mem_append,List.mem_append]
theorem Sm.perm (S:Sm K Z Θ env C σ H) (p:Z.Perm Z'):Sm K Z' Θ env C σ H:=by
 have e:er (aV Z Θ env σ) H=er (aV Z' Θ env σ) H:=jM fun a=>by rw [bY,bY,p.mem_iff]
 refine ⟨S.len,(List.Perm.append_right _ p).nodup S.nd,fun a m=>S.dom a (p.mem_iff.mpr m),fun i x h=>?_,S.cell⟩
 rw [←e]
 exact S.slot i x h
end
section
variable {X:Cx} {e:Expr} {es:List Expr} {pos:Pos}
theorem qM:PA X [] (WY X.K aG):=lY.weak fun σ H Q ⟨Z,Θ,env,C,xs,env',C',S,hf,q⟩=>by
 cases hf
 exact q [] [] H (cg.refl _ _) (Fz.refl _) (fun _ m=>nomatch m) S .nil
theorem eU {f:FE} {g:FA} (h:PE X e (tE X.K f)) (hr:PA X es (WY X.K g)) (hs:starEach (e::es) X.env=(false,eval e X.env)::starEach es X.env:=by rfl):PA X (e::es) (WY X.K (bT f g)):=(gw h hr hs).weak fun σ H Q ⟨Z,Θ,env,C,xs,env',C',S,hf,q⟩=>by
 unfold bT at hf
 split at hf
 ·rename_i r e1 C1 h1
  split at hf
  ·rename_i ys e2 C2 h2
   cases hf
   refine ⟨Z,Θ,env,C,r,e1,C1,S,h1,fun v H1 k1 f1 R1=>?_⟩
   have plain:∀{x:Vl},Sm X.K Z Θ e1 C1 σ H1→rZ X.K (er (aV Z Θ e1 σ) H1) Θ x v→r=x→WY X.K g σ H1 fun xs H2=>Q (v::xs) H2:=fun {x} S1 a1 ex=>by
    subst ex
    refine ⟨Z,Θ,e1,C1,ys,env',C',S1,h2,fun vs as H2 k2 f2 n2 S2 a2=>q _ as H2 (k1.trans k2) (f1.trans f2) (fun a m=>k1.none (n2 a m)) S2 (.cons (a1.same (iM k2 S1.KJ fun a m=>?_)) a2)⟩
    rcases List.mem_append.mp m with m | m
    ·rcases List.mem_append.mp m with m | m
     ·exact .inr (n2 a m)
     ·exact .inl (List.mem_append_left _ m)
    ·exact .inl (f2.sub (Z:=Z) a (List.mem_append_right _ m))
   cases r with
   | im d=>exact plain (x:=.im d) R1.1 R1.2 rfl
   | ce n=>exact plain (x:=.ce n) R1.1 R1.2 rfl
   | sc ns=>exact plain (x:=.sc ns) R1.1 R1.2 rfl
   | ow d=>
    obtain ⟨a,rfl,hn,S1,r1⟩:=R1
    refine ⟨a::Z,Θ,e1,C1,ys,env',C',S1,h2,fun vs as H2 k2 f2 n2 S2 a2=>?_⟩
    have ez:as++a::Z=(as++[a])++Z:=by rw [List.append_assoc]; rfl
    rw [ez] at S2 a2
    have na:a∉Θ:=fun m=>(S1.lF.2.2.2 a List.mem_cons_self) m
    refine q _ (as++[a]) H2 (k1.trans k2) (f1.trans f2) (fun b m=>?_) S2 (.own (r1.same (iM k2 S1.KJ fun b m=>?_) fun o ho=>k2.keep _ _ ho na) a2)
    ·rcases List.mem_append.mp m with m | m
     ·exact k1.none (n2 b m)
     ·rw [List.mem_singleton.mp m]; exact hn
    ·rcases List.mem_append.mp m with m | m
     ·rcases List.mem_append.mp m with m | m
      ·rcases List.mem_append.mp m with m | m
       ·exact .inr (n2 b m)
       ·rw [List.mem_singleton.mp m]; exact .inl List.mem_cons_self
      ·exact .inl (List.mem_append_left _ (List.mem_cons_of_mem _ m))
     ·exact .inl (f2.sub (Z:=a::Z) b (List.mem_append_right _ m))
  ·cases hf
 ·cases hf
end
def setM {α:Type}:List Nat→List α→List (Option α)→List (Option α)
 | i::is,x::xs,e=>setM is xs (e.set i (some x))
 | _,_,e=>e
theorem Jf {K:PySem.W.Frag} {Z Θ:List Addr} {C:Ce} {H:Hp} {E:Hp}:∀{as:List Addr} {xs:List Vl} {vs:List V},j9 K E H Θ as xs vs→∀{is:List Nat} {env:En} {σ:St},is.length=xs.length→bz E (er (aV (as++Z) Θ env σ) H)→Sm K (as++Z) Θ env C σ H→
  Sm K Z Θ (setM is xs env) C (setM is vs σ) H∧∀a∈bJ (setM is xs env) (setM is vs σ),a∈bJ env σ∨a∈as:=by
 intro as xs vs h
 induction h with
 | nil=>
  intro is env σ hl _ S
  cases is with
  | nil=>exact ⟨S,fun a m=>.inl m⟩
  | cons _ _=>cases hl
 | @cons as x v xs vs a1 _ ih=>
  intro is env σ hl sm S
  cases is with
  | nil=>cases hl
  | cons i is=>
   have hx:∀d,x≠.ow d:=fun d z=>by subst z; exact a1
   have sl:KH K (er (aV (as++Z) Θ env σ) H) H Θ x v:=by
    have a2:=a1.same sm
    cases x with
    | im d=>exact a2
    | ow d=>exact absurd rfl (hx d)
    | ce n=>exact a2
    | sc ns=>exact a2
   have S1:Sm K (as++Z) Θ (env.set i (some x)) C (σ.set i (some v)) H:=S.KY hx sl
   have o1:∀b∈bJ (env.set i (some x)) (σ.set i (some v)),b∈bJ env σ:=fun b m=>by
    rcases nM m with m | ⟨⟨d,z⟩,_⟩
    ·exact m
    ·exact absurd z (hx d)
   obtain ⟨S2,o2⟩:=ih (is:=is) (by simpa using hl) (sm.trans (Oe o1)) S1
   refine ⟨S2,fun b m=>?_⟩
   rcases o2 b m with m | m
   ·exact .inl (o1 b m)
   ·exact .inr m
 | @own as a d xs vs r _ ih=>
  intro is env σ hl sm S
  cases is with
  | nil=>cases hl
  | cons i is=>
   have pm:((as++[a])++Z).Perm (a::(as++Z)):=by
    rw [List.append_assoc]
    exact List.perm_middle
   have S0:=S.perm pm
   have ee:er (aV ((as++[a])++Z) Θ env σ) H=er (aV (a::(as++Z)) Θ env σ) H:=jM fun b=>by rw [bY,bY,pm.mem_iff]
   rw [ee] at sm
   have S1:Sm K (as++Z) Θ (env.set i (some (.ow d))) C (σ.set i (some (.ref a))) H:=S0.Yr (r.same sm fun _ h=>h)
   have o1:∀b∈bJ (env.set i (some (.ow d))) (σ.set i (some (.ref a))),b∈bJ env σ∨b=a:=fun b m=>by
    rcases nM m with m | ⟨_,z⟩
    ·exact .inl m
    ·cases z; exact .inr rfl
   obtain ⟨S2,o2⟩:=ih (is:=is) (by simpa using hl) (sm.trans (lZ fun b m=>by
    rcases List.mem_append.mp m with m | m
    ·exact List.mem_append_left _ (List.mem_cons_of_mem _ m)
    ·rcases List.mem_append.mp m with m | m
     ·exact List.mem_append_right _ (List.mem_append_left _ m)
     ·rcases o1 b m with m | rfl
      ·exact List.mem_append_right _ (List.mem_append_right _ m)
      ·exact List.mem_append_left _ List.mem_cons_self)) S1
   refine ⟨S2,fun b m=>?_⟩
   rcases o2 b m with m | m
   ·rcases o1 b m with m | rfl
    ·exact .inl m
    ·exact .inr (List.mem_append_right _ (List.mem_singleton.mpr rfl))
   ·exact .inr (List.mem_append_left _ m)
theorem Bf {K:PySem.W.Frag} {E H:Hp} {Θ as:List Addr} {xs:List Vl} {vs:List V} (h:j9 K E H Θ as xs vs):vs.length=xs.length:=by
 induction h with
 | nil=>rfl
 | cons _ _ ih=>rw [List.length_cons,List.length_cons,ih]
 | own _ _ ih=>rw [List.length_cons,List.length_cons,ih]
def fX (is:List Nat) (g:FA):FS:=fun env C=>match g env C with
 | some (xs,e1,C1)=>if is.length=xs.length∧xs.length≤jA then some (.nx,setM is xs e1,C1) else none
 | none=>none
def gsM (is:List Nat):Ly:=match is with
 | []=>U0
 | i::r=>Lz (uG i) (gsM r)
theorem Jg:∀{is:List Nat} {vs:List V} {σ:St} {H:Hp} {Q:St→Hp→Prop},is.length=vs.length→Q (setM is vs σ) H→gsM is vs σ H Q
 | [],[],σ,H,Q,_,q=>⟨rfl,q⟩
 | i::is,v::vs,σ,H,Q,h,q=>⟨v,vs,rfl,Jg (by simpa using h) q⟩
 | [],_::_,_,_,_,h,_=>by cases h
 | _::_,[],_,_,_,h,_=>by cases h
section
variable {X:Cx} {pos:Pos}
theorem wX {i j:Nat} {x y:Str} {a b:Expr} {g:FA} {px py pt:Pos} {kt k2 U6} (hc:X.calm=true) (hN:X.N.Nodup) (hi:X.N[i]?=some x) (hj:X.N[j]?=some y) (hij:i≠j)
  (hx:X.env.scope.names.lookup x=some .local) (hy:X.env.scope.names.lookup y=some .local) (ha:PA X [a,b] (WY X.K g))
  (hw:swappedStores [.Tuple [.Name x px,.Name y py] kt pt] (.Tuple [a,b] k2 U6) X.env=pure (some [x,y]))
  (hs:swapsWithSole [.Tuple [.Name x px,.Name y py] kt pt] (.Tuple [a,b] k2 U6) pos.line X.env=pure false:=by rfl):
  PS X (.Assign [.Tuple [.Name x px,.Name y py] kt pt] (.Tuple [a,b] k2 U6) pos) (tS X.K (fX [i,j] g)):=(U5 hc hN hi hj hij hx hy ha hw hs).weak fun D σ H ⟨Z,Θ,env,C,fl,env',C',S,hf,q⟩=>by
 unfold fX at hf
 split at hf
 ·rename_i xs e1 C1 h1
  split at hf
  ·rename_i hl
   cases hf
   refine ⟨Z,Θ,env,C,xs,e1,C',S,h1,fun vs as H1 k1 f1 n1 S1 a1=>?_⟩
   have l2:=Bf a1
   obtain ⟨S2,o2⟩:=Jf a1 hl.1 (bz.refl _) S1
   have e2:∃v w,vs=[v,w]:=by
    have:vs.length=2:=by rw [l2,←hl.1]; rfl
    match vs,this with
    | [v,w],_=>exact ⟨v,w,rfl⟩
   obtain ⟨v,w,rfl⟩:=e2
   refine ⟨v,w,rfl,q Θ _ H1 ⟨Bd.refl _ _,nO k1,fun b m=>?_,S2⟩⟩
   rcases o2 b m with m | m
   ·exact .inl (f1.own.subset m)
   ·exact .inr (n1 b m)
  ·cases hf
 ·cases hf
theorem Jh {tg:Expr} {es:List Expr} {g:FA} {is:List Nat} {n:Nat} {x1 pt} (ha:PA X es (WY X.K g)) (hg:PG X tg (U3 X.K n (gsM is))) (hn:n=is.length:=by rfl)
  (hs:swapsWithSole [tg] (.Tuple es x1 pt) pos.line X.env=pure false:=by rfl) (hw:swappedStores [tg] (.Tuple es x1 pt) X.env=pure none:=by rfl) (h1:(assignEach [tg] X.env).map (·.2)=[assign tg X.env]:=by rfl):
  PS X (.Assign [tg] (.Tuple es x1 pt) pos) (tS X.K (fX is g)):=(Fi (FQ ha) hg hs hw h1).weak fun D σ H ⟨Z,Θ,env,C,fl,env',C',S,hf,q⟩=>by
 unfold fX at hf
 split at hf
 ·rename_i xs e1 C1 h1
  split at hf
  ·rename_i hl
   cases hf
   refine ⟨Z,Θ,env,C,xs,e1,C',S,h1,fun vs as H1 k1 f1 n1 S1 a1=>⟨by rw [Bf a1]; exact gk hl.2,fun p hp=>?_⟩⟩
   have l2:=Bf a1
   refine ⟨p,vs,rfl,jz.of aX,by rw [l2,hn,hl.1],Jg (by rw [hl.1,l2]) ?_⟩
   have kp:cg Θ H1 (upd H1 p (.tup vs)):=cg.upd hp
   have S1':=S1.wI (bz.upd (o:=.tup vs) hp)
   have a1':j9 X.K (er (aV (as++Z) Θ e1 σ) H1) (upd H1 p (.tup vs)) Θ as xs vs:=a1.heap fun b o ho=>by rw [aY (cu ho hp)]; exact ho
   obtain ⟨S2,o2⟩:=Jf a1' hl.1 (iM kp S1.KJ fun b m=>.inl m) S1'
   refine q Θ _ _ ⟨Bd.refl _ _,nO (k1.trans kp),fun b m=>?_,S2⟩
   rcases o2 b m with m | m
   ·exact .inl (f1.own.subset m)
   ·exact .inr (n1 b m)
  ·cases hf
 ·cases hf
end
end L2
set_option maxHeartbeats 4000000
namespace L2
open PySem PySem.Spec PyProof.Rows PySem.W
theorem DR:∀{env:En} {σ:St} {i:Nat} {d d':PyData},env[i]?=some (some (.ow d))→bJ (env.set i (some (.ow d'))) σ=bJ env σ
 | [],σ,i,d,d',h=>by simp at h
 | x::e,[],i,d,d',h=>by cases i <;> rfl
 | x::e,v::s,0,d,d',h=>by
  simp at h
  subst h
  show own1 (some (.ow d')) v++bJ e s=own1 (some (.ow d)) v++bJ e s
  rcases v with _ | v
  ·rfl
  ·cases v <;> rfl
 | x::e,v::s,i + 1,d,d',h=>by
  show own1 x v++bJ (e.set i (some (.ow d'))) s=own1 x v++bJ e s
  rw [DR (by simpa using h)]
section
variable {K:PySem.W.Frag} {Z Θ:List Addr} {env:En} {C:Ce} {σ:St} {H:Hp} {a:Addr} {i:Nat} {d d':PyData} {o:HO}
theorem G3 {P:List Addr} (h:a∈P):er P (upd H a o)=er P H:=by
 funext b
 unfold er
 by_cases hb:b=a
 ·subst hb; rw [if_pos h,if_pos h]
 ·rw [aY hb]
theorem Sm.write (S:Sm K Z Θ env C σ H) (e1:env[i]?=some (some (.ow d))) (e2:σ[i]?=some (some (.ref a))) (r:pD (er (aV Z Θ env σ) H) (upd H a o) a d'):lJ K Z Θ env σ H Θ (env.set i (some (.ow d'))) C σ (upd H a o):=by
 have m:a∈bJ env σ:=di.mpr ⟨i,d,e1,e2⟩
 have no:=S.ie m
 have eo:bJ (env.set i (some (.ow d'))) σ=bJ env σ:=DR e1
 have mp:a∈aV Z Θ env σ:=List.mem_append_right _ (List.mem_append_right _ m)
 have ep:aV Z Θ (env.set i (some (.ow d'))) σ=aV Z Θ env σ:=by show _++(_++_)=_; rw [eo]
 refine ⟨Bd.refl _ _,⟨fun b u hb n=>?_,fun b hb=>?_⟩,fun b mb=>.inl (by rw [eo] at mb; exact mb),⟨by rw [List.length_set]; exact S.len,by rw [ep]; exact S.nd,fun b mb=>?_,fun j y ej=>?_,⟨S.cell.len,fun n b ns h1 h2=>?_⟩⟩⟩
 ·rw [aY (fun z=>n (List.mem_append_right _ (by rw [z]; exact m)))]
  exact hb
 ·by_cases z:b=a
  ·subst z; rw [aX]; exact Option.some_ne_none _
  ·rw [aY z]; exact hb
 ·rw [aY (fun z=>no.1 (by rw [←z]; exact mb))]
  exact S.dom b mb
 ·rw [ep,G3 mp]
  rcases get_set ej with ⟨rfl,ex,hl⟩ | ⟨n,ej⟩
  ·cases ex
   exact ⟨_,e2,a,rfl,r⟩
  ·obtain ⟨v,e3,r3⟩:=S.slot j y ej
   refine ⟨v,e3,r3.same (bz.refl _) fun d2 b ex ev u hu=>?_⟩
   subst ex ev
   rw [aY]
   ·exact hu
   ·intro z
    subst z
    exact n (rW S.lF.2.2.1 ej e3 e1 e2)
 ·rw [aY (fun z=>no.2 (by rw [←z]; exact List.mem_of_getElem? h1))]
  exact S.cell.at_ n b ns h1 h2
end
def eG:Option (Option Vl)→Bool
 | some (some (.ow (.list _)))=>true
 | _=>false
def fY (i:Nat) (f:FE):FS:=fun env C=>if eG env[i]? then match f env C with
  | some (r,e1,C1)=>match still r,e1[i]? with
   | .im d,some (some (.ow (.list ds)))=>if ds.length < jA then some (.nx,e1.set i (some (.ow (.list (ds++[d])))),C1) else none
   | _,_=>none
  | none=>none
 else none
theorem Og {x:Option (Option Vl)} (h:eG x=true):∃ds,x=some (some (.ow (.list ds))):=by
 unfold eG at h
 split at h
 ·exact ⟨_,rfl⟩
 ·cases h
section
variable {X:Cx} {pos:Pos}
theorem qN {i:Nat} {o e:Expr} {f:FE} {apos cpos:Pos} (ho:PE X o (yH i)) (he:PE X e (tE X.K f))
  (hs0:swapsWith (.Call (.Attribute o "append" apos) [e] [] cpos) none pos.line X.env=pure false:=by rfl)
  (hbase:attributeBase o "append" X.env (eval o X.env)=eval o X.env:=by rfl)
  (hfew:((backTo cpos (starEach [e] X.env)).all (fun x=>!x.1)&&(backToKw cpos (keywordEach [] X.env)).all (fun x=>x.1.isSome)
   &&decide (([e]:List Expr).length + ([]:List Keyword).length + (if ([]:List Keyword).isEmpty then 0 else 1) < 30))=true:=by rfl)
  (hline:(apos.endLine==cpos.line)=true:=by rfl) (hs:starEach [e] X.env=(false,eval e X.env)::starEach [] X.env:=by rfl) (hplain:(backTo cpos (starEach [] X.env)).any (·.1)=false:=by rfl):
  PS X (.Expr (.Call (.Attribute o "append" apos) [e] [] cpos) pos) (tS X.K (fY i f)):=
 (QB (Tv PySem.F.plainAttrs_list PySem.F.slot_list_append PySem.F.type_list_append (WR.r yV) ho (gw he lY hs) hbase hfew hline hs hplain) hs0).weak fun D σ H ⟨Z,Θ,env,C,fl,env',C',S,hf,q⟩=>by
  unfold fY at hf
  split at hf
  ·rename_i h0
   obtain ⟨ds0,h0⟩:=Og h0
   obtain ⟨v0,ev0,a,rfl,vs0,ha0,r0⟩:=S.slot i _ h0
   split at hf
   ·rename_i r e1 C1 h1
    split at hf
    ·rename_i d ds hd hi
     split at hf
     ·rename_i hl
      cases hf
      refine ⟨_,ev0,.inl ⟨rfl,vs0,dW.of ha0⟩,Z,Θ,env,C,r,e1,C',S,h1,fun v H1 k f R=>?_⟩
      obtain ⟨S1,r1⟩:=R.qx hd
      obtain ⟨v1,ev1,a1,ea1,vs,ha1,r2⟩:=S1.slot i _ hi
      subst ea1
      rw [ev0] at ev1
      cases ev1
      refine ⟨a,vs,v,rfl,rfl,ha1,by rw [cG r2,sizeLine_eq]; unfold jA at hl; omega,?_⟩
      have w:lJ X.K Z Θ e1 σ H1 Θ (e1.set i (some (.ow (.list (ds++[d]))))) C' σ (upd H1 a (.lst (vs++[v]))):=S1.write hi ev0 ⟨_,aX,rT r2 ⟨v,[],rfl,r1,rfl⟩⟩
      exact q Θ σ _ ((lJ.Je k f S1).trans w)
     ·cases hf
    ·cases hf
   ·cases hf
  ·cases hf
def nP {κ:Type} [DecidableEq κ] (f:PyData→Option κ) (k:κ) (dk d:PyData) (kvs:List (PyData×PyData)):List (PyData×PyData):=
 if (kvs.any fun p=>decide (f p.1=some k))=true then kvs.map (fun p=>if f p.1=some k then (p.1,d) else p) else kvs++[(dk,d)]
def putD (kvs:List (PyData×PyData)) (dk d:PyData):Option (List (PyData×PyData)):=match fP dk with
 | some k=>if (cV fP kvs).isSome then some (nP fP k dk d kvs) else none
 | none=>match fj dk with
  | some ks=>if (cV fj kvs).isSome then some (nP fj ks dk d kvs) else none
  | none=>none
theorem Ji {κ:Type} [DecidableEq κ] {f:PyData→Option κ} {k:κ} {E:Hp}:∀{kvs:List (PyData×PyData)} {ks:List κ} {vs:List V},cV f kvs=some ks→rB E kvs vs→(kvs.any fun p=>decide (f p.1=some k))=((ks.zip vs).any fun kv=>decide (kv.1=k))
 | [],ks,vs,h,r=>by
  cases h
  cases (show vs=[] from r)
  rfl
 | (p,d)::kvs,ks,vs,h,r=>by
  unfold cV at h
  split at h
  ·rename_i k' t h1 h2
   cases h
   obtain ⟨v,w,rfl,q,s⟩:=r
   show (decide (f p=some k) || _)=(decide (k'=k) || _)
   rw [Ji h2 s,h1]
   congr 1
   rw [Bool.eq_iff_iff,decide_eq_true_iff,decide_eq_true_iff]
   exact ⟨fun e=>Option.some.inj e,fun e=>by rw [e]⟩
  ·cases h
theorem Jj {κ:Type} [DecidableEq κ] {f:PyData→Option κ} {k:κ} {E:Hp} {d:PyData} {v:V} (hv:RZ E d v):∀{kvs:List (PyData×PyData)} {ks:List κ} {vs:List V},cV f kvs=some ks→rB E kvs vs→
  ∃vs',cV f (kvs.map fun p=>if f p.1=some k then (p.1,d) else p)=some ks∧rB E (kvs.map fun p=>if f p.1=some k then (p.1,d) else p) vs'∧ks.zip vs'=(ks.zip vs).map fun kv=>if kv.1=k then (kv.1,v) else kv
 | [],ks,vs,h,r=>by
  cases h
  exact ⟨[],rfl,rfl,rfl⟩
 | (p,e)::kvs,ks,vs,h,r=>by
  unfold cV at h
  split at h
  ·rename_i k' t h1 h2
   cases h
   obtain ⟨u,w,rfl,q,s⟩:=r
   obtain ⟨vs',g1,g2,g3⟩:=Jj (k:=k) hv h2 s
   have h1':f p=some k':=h1
   by_cases ek:k'=k
   ·subst ek
    refine ⟨v::vs',?_,?_,?_⟩
    ·rw [List.map_cons]
     show cV f ((if f p=some k' then (p,d) else (p,e))::_)=_
     rw [if_pos h1']
     unfold cV
     rw [g1]
     simp only [h1']
    ·rw [List.map_cons]
     show rB E ((if f p=some k' then (p,d) else (p,e))::_) _
     rw [if_pos h1']
     exact ⟨v,vs',rfl,hv,g2⟩
    ·show (k',v)::t.zip vs'=(if k'=k' then (k',v) else (k',u))::_
     rw [if_pos rfl,g3]
     rfl
   ·have ne:¬f p=some k:=fun z=>ek (Option.some.inj (h1'.symm.trans z))
    refine ⟨u::vs',?_,?_,?_⟩
    ·rw [List.map_cons]
     show cV f ((if f p=some k then (p,d) else (p,e))::_)=_
     rw [if_neg ne]
     unfold cV
     rw [g1]
     simp only [h1']
    ·rw [List.map_cons]
     show rB E ((if f p=some k then (p,d) else (p,e))::_) _
     rw [if_neg ne]
     exact ⟨u,vs',rfl,q,g2⟩
    ·show (k',u)::t.zip vs'=(if k'=k then (k',v) else (k',u))::_
     rw [if_neg ek,g3]
     rfl
  ·cases h
theorem DW {κ:Type} {f:PyData→Option κ} {k:κ} {E:Hp} {dk d:PyData} {v:V} (hk:f dk=some k) (hv:RZ E d v):∀{kvs:List (PyData×PyData)} {ks:List κ} {vs:List V},cV f kvs=some ks→rB E kvs vs→
  cV f (kvs++[(dk,d)])=some (ks++[k])∧rB E (kvs++[(dk,d)]) (vs++[v])∧(ks++[k]).zip (vs++[v])=ks.zip vs++[(k,v)]
 | [],ks,vs,h,r=>by
  cases h
  cases (show vs=[] from r)
  refine ⟨?_,⟨v,[],rfl,hv,rfl⟩,rfl⟩
  show cV f [(dk,d)]=_
  unfold cV cV
  simp only [hk]
  rfl
 | (p,e)::kvs,ks,vs,h,r=>by
  unfold cV at h
  split at h
  ·rename_i k' t h1 h2
   cases h
   obtain ⟨u,w,rfl,q,s⟩:=r
   obtain ⟨g1,g2,g3⟩:=DW hk hv h2 s
   refine ⟨?_,⟨u,_,rfl,q,g2⟩,?_⟩
   ·show cV f ((p,e)::(kvs++[(dk,d)]))=_
    unfold cV
    rw [g1]
    simp only [show f p=some k' from h1]
    rfl
   ·show (k',u)::(t++[k]).zip (w++[v])=_
    rw [g3]
    rfl
  ·cases h
theorem vB {κ:Type} [DecidableEq κ] {f:PyData→Option κ} {k:κ} {E:Hp} {dk d:PyData} {v:V} (hk:f dk=some k) (hv:RZ E d v) {kvs:List (PyData×PyData)} {ks:List κ} {vs:List V} (h:cV f kvs=some ks) (r:rB E kvs vs):
  ∃ks' vs',cV f (nP f k dk d kvs)=some ks'∧rB E (nP f k dk d kvs) vs'∧ks'.zip vs'=putK (ks.zip vs) k v:=by
 unfold nP putK
 rw [Ji h r]
 split
 ·obtain ⟨vs',g1,g2,g3⟩:=Jj (k:=k) hv h r
  exact ⟨ks,vs',g1,g2,g3⟩
 ·obtain ⟨g1,g2,g3⟩:=DW hk hv h r
  exact ⟨_,_,g1,g2,g3⟩
theorem set_dict (hu:X.A.units + 1 < cLine):z8 X (fun o i v H Q=>∃a H',o=.ref a∧yJ H a i v H'∧Q H'):=by
 intro pins s σ H o i v ov iv u Q I ro ri rv h
 obtain ⟨a,H',rfl,g,q⟩:=h
 cases ro
 exact yX hu I g ri rv fun s' I'=>⟨H',I',q⟩
theorem KZ (hu:X.A.units + 1 < cLine):z8 X (fun o i v H Q=>∃(a b:Addr) (ks:List Key),o=.ref a∧H a=some (.dK [])∧i=.ref b∧H b=some (.tup (ks.map kV))∧Q (upd H a (.dT [(ks,v)]))):=by
 intro pins s σ H o i v ov iv u Q I ro ri rv h
 obtain ⟨a,b,ks,rfl,ha,rfl,hb,q⟩:=h
 cases ro
 have hb':(upd H a (.dT [])) b=some (.tup (ks.map kV)):=by rw [aY (Ln hb ha (fun z=>nomatch z))]; exact hb
 refine yX hu (I.Ym ha) (yJ.t (kvs:=[]) (k:=ks) (v:=v) aX hb' (by rw [sizeLine_eq]; decide)) ri rv fun s' I'=>⟨_,I',?_⟩
 rw [HJ]
 exact q
theorem z8.or {t t':QC} (h:z8 X t) (h':z8 X t'):z8 X (fun o i v H Q=>t o i v H Q∨t' o i v H Q):=by
 intro pins s σ H o i v ov iv u Q I ro ri rv q
 rcases q with q | q
 ·exact h pins s σ H o i v ov iv u Q I ro ri rv q
 ·exact h' pins s σ H o i v ov iv u Q I ro ri rv q
theorem Rw (hu:X.A.units + 1 < cLine):z8 X (fun o i v H Q=>(Tu o i v H Q∨∃a H',o=.ref a∧yJ H a i v H'∧Q H')∨∃(a b:Addr) (ks:List Key),o=.ref a∧H a=some (.dK [])∧i=.ref b∧H b=some (.tup (ks.map kV))∧Q (upd H a (.dT [(ks,v)]))):=
 (set_list.or (set_dict hu)).or (KZ hu)
def zu:Option (Option Vl)→Bool
 | some (some _)=>true
 | _=>false
theorem Rx {x:Option (Option Vl)} (h:zu x=true):∃y,x=some (some y):=by
 unfold zu at h
 split at h
 ·exact ⟨_,rfl⟩
 ·cases h
def yM (i:Nat) (fk:FB) (fe:FE):FS:=fun env C=>match fe env C with
 | some (r,e1,C1)=>match still r with
  | .im d=>match fk e1 C1 with
   | some (dk,e2,C2)=>if zu e1[i]? then match e2[i]? with
    | some (some (.ow (.list ds)))=>match dk with
     | .int z=>match oV ds.length z with
      | some j=>some (.nx,e2.set i (some (.ow (.list (ds.set j d)))),C2)
      | none=>none
     | _=>none
    | some (some (.ow (.dict kvs)))=>match putD kvs dk d with
     | some kvs'=>if kvs.length < jA then some (.nx,e2.set i (some (.ow (.dict kvs'))),C2) else none
     | none=>none
    | some (some (.ce n))=>match dk with
     | .int z=>match d with
      | .int y=>match C2[n]? with
       | some ns=>match oV ns.length z with
        | some j=>some (.nx,e2,C2.set n (ns.set j y))
        | none=>none
       | none=>none
      | _=>none
     | _=>none
    | _=>none
    else none
   | none=>none
  | _=>none
 | none=>none
theorem Bg {i:Nat} {o k e:Expr} {fk:FB} {fe:FE} {p:Pos} (hu:X.A.units + 1 < cLine) (ho:PE X o (yH i)) (hk:PE X k (nG X.K fk)) (he:PE X e (tE X.K fe))
  (ha:∀v,assign (.Subscript o k p) X.env v=(do
   let ov ←holding [v] (eval o X.env)
   let iv ←holding [v,ov] (eval k X.env)
   standAt p
   holding [v,ov,iv] (setItem ov iv v)
   release [v,ov,iv] []):=by intro _; rfl)
  (hs:swapsWithSole [.Subscript o k p] e pos.line X.env=pure false:=by rfl) (hw:swappedStores [.Subscript o k p] e X.env=pure none:=by rfl) (h1:(assignEach [.Subscript o k p] X.env).map (·.2)=[assign (.Subscript o k p) X.env]:=by rfl):
  PS X (.Assign [.Subscript o k p] e pos) (tS X.K (yM i fk fe)):=(Fi he (U4 ho hk (Rw hu) ha) hs hw h1).weak fun D σ H ⟨Z,Θ,env,C,fl,env',C',S,hf,q⟩=>by
 unfold yM at hf
 split at hf
 ·rename_i r e1 C1 h1
  split at hf
  ·rename_i d hd
   split at hf
   case h_2=>cases hf
   rename_i dk e2 C2 h2
   refine ⟨Z,Θ,env,C,r,e1,C1,S,h1,fun v H1 k1 f1 R1=>?_⟩
   obtain ⟨S1,r1⟩:=R1.qx hd
   split at hf
   ·rename_i h3
    obtain ⟨y3,h3⟩:=Rx h3
    obtain ⟨u,eu,_⟩:=S1.slot i _ h3
    refine ⟨u,eu,Z,Θ,e1,C1,dk,e2,C2,S1,h2,fun w H2 k2 f2 S2 b2=>?_⟩
    have r2:RZ (er (aV Z Θ e2 σ) H2) d v:=r1.same (Nz S1 k2 f2)
    have kk:=k1.trans k2
    have ff:=f1.trans f2
    split at hf
    ·rename_i ds hi
     split at hf
     case h_2=>cases hf
     rename_i z
     split at hf
     ·rename_i j hj
      cases hf
      obtain ⟨u',Uc,a,ea,vs,ha,r3⟩:=S2.slot i _ hi
      subst ea
      rw [eu] at Uc
      cases Uc
      cases b2.int
      refine .inl (.inl ⟨a,vs,z,j,rfl,rfl,ha,by rw [cG r3]; exact hj,?_⟩)
      have wr:lJ X.K Z Θ e2 σ H2 Θ (e2.set i (some (.ow (.list (ds.set j d))))) C' σ (upd H2 a (.lst (vs.set j v))):=S2.write hi eu ⟨_,aX,Iz r2 j r3⟩
      exact q Θ σ _ ((lJ.Je kk ff S2).trans wr)
     ·cases hf
    ·rename_i kvs hi
     split at hf
     ·rename_i kvs' hp
      split at hf
      ·rename_i hl
       cases hf
       obtain ⟨u',Uc,a,ea,vs,da,r3⟩:=S2.slot i _ hi
       subst ea
       rw [eu] at Uc
       cases Uc
       unfold putD at hp
       split at hp
       ·rename_i k hk
        split at hp
        ·rename_i hs'
         cases hp
         have wk:w=kV k:=by
          cases dk <;> first | (cases hk; exact b2) | cases hk
         rcases da with ⟨ks,g1,ha⟩ | ⟨ks,⟨ne,g2⟩,ha⟩
         ·obtain ⟨ks',vs',g3,g4,g5⟩:=vB hk r2 g1 r3
          have hl':(ks.zip vs).length < sizeLine:=by
           rw [List.length_zip,sizeLine_eq,jC g1]
           unfold jA at hl
           omega
          have dp:=yJ.k (k:=k) (v:=v) ha hl'
          rw [←wk] at dp
          refine .inl (.inr ⟨a,_,rfl,dp,?_⟩)
          have wr:lJ X.K Z Θ e2 σ H2 Θ (e2.set i (some (.ow (.dict (nP fP k dk d kvs))))) C' σ (upd H2 a (.dK (putK (ks.zip vs) k v))):=S2.write hi eu ⟨vs',.inl ⟨ks',g3,by rw [g5]; exact aX⟩,g4⟩
          exact q Θ σ _ ((lJ.Je kk ff S2).trans wr)
         ·obtain ⟨aam,g1⟩:=Option.isSome_iff_exists.mp hs'
          exact absurd (j6 g1 g2) ne
        ·cases hp
       ·split at hp
        ·rename_i Wa hks
         split at hp
         ·rename_i hs'
          cases hp
          obtain ⟨b,hb,rfl⟩:∃b,H2 b=some (.tup (Wa.map kV))∧w=.ref b:=by
           cases dk <;> first | cases hks | skip
           obtain ⟨b,ws,rfl,hb,rr⟩:=b2.tup
           rw [jX hks rr] at hb
           exact ⟨b,hb,rfl⟩
          have ne':∀kvs,nP fj Wa dk d kvs≠[]:=fun kvs z=>by
           unfold nP at z
           split at z
           ·rename_i hz
            cases kvs with
            | nil=>cases hz
            | cons _ _=>cases z
           ·cases kvs <;> cases z
          rcases da with ⟨ks,g1,ha⟩ | ⟨ks,⟨ne,g1⟩,ha⟩
          ·obtain ⟨aam,g2⟩:=Option.isSome_iff_exists.mp hs'
           have e0:=j6 g1 g2
           subst e0
           cases g1
           have e0:vs=[]:=r3
           subst e0
           obtain ⟨ks',vs',g3,g4,g5⟩:=vB (kvs:=[]) (vs:=[]) (ks:=[]) hks r2 rfl rfl
           refine .inr ⟨a,b,Wa,rfl,ha,rfl,hb,?_⟩
           have wr:lJ X.K Z Θ e2 σ H2 Θ (e2.set i (some (.ow (.dict (nP fj Wa dk d []))))) C' σ (upd H2 a (.dT [(Wa,v)])):=S2.write hi eu ⟨vs',.inr ⟨ks',⟨ne' [],g3⟩,by rw [g5]; exact aX⟩,g4⟩
           exact q Θ σ _ ((lJ.Je kk ff S2).trans wr)
          ·obtain ⟨ks',vs',g3,g4,g5⟩:=vB hks r2 g1 r3
           have hl':(ks.zip vs).length < sizeLine:=by
            rw [List.length_zip,sizeLine_eq,jC g1]
            unfold jA at hl
            omega
           refine .inl (.inr ⟨a,_,rfl,yJ.t ha hb hl',?_⟩)
           have wr:lJ X.K Z Θ e2 σ H2 Θ (e2.set i (some (.ow (.dict (nP fj Wa dk d kvs))))) C' σ (upd H2 a (.dT (putK (ks.zip vs) Wa v))):=S2.write hi eu ⟨vs',.inr ⟨ks',⟨ne' kvs,g3⟩,by rw [g5]; exact aX⟩,g4⟩
           exact q Θ σ _ ((lJ.Je kk ff S2).trans wr)
         ·cases hp
        ·cases hp
      ·cases hf
     ·cases hf
    ·rename_i n hi
     split at hf
     case h_2=>cases hf
     rename_i z
     split at hf
     case h_2=>cases hf
     rename_i y
     split at hf
     ·rename_i ns hns
      split at hf
      ·rename_i j hj
       cases hf
       obtain ⟨u',Uc,a,ea,hth⟩:=S2.slot i _ hi
       subst ea
       rw [eu] at Uc
       cases Uc
       cases b2.int
       have ev:v=.int y:=r2
       subst ev
       have ha:=S2.cell.at_ n a ns hth hns
       refine .inl (.inl ⟨a,_,z,j,rfl,rfl,ha,by rw [List.length_map]; exact hj,?_⟩)
       have am:a∈Θ:=List.mem_of_getElem? hth
       have kc:cg Θ H2 (upd H2 a (.lst ((ns.map V.int).set j (.int y)))):=⟨fun b o hb nb=>by rw [aY (fun zz=>nb (by rw [zz]; exact am))]; exact hb,fun b hb=>by
        by_cases zz:b=a
        ·subst zz; rw [aX]; exact Option.some_ne_none _
        ·rw [aY zz]; exact hb⟩
       have cc:jj Θ (C2.set n (ns.set j y)) (upd H2 a (.lst ((ns.map V.int).set j (.int y)))):=by
        refine ⟨by rw [List.length_set]; exact S2.cell.len,fun m b ms h5 h6=>?_⟩
        rcases get_set h6 with ⟨rfl,e6,_⟩ | ⟨nm,h6⟩
        ·rw [hth] at h5
         cases h5
         cases e6
         rw [aX,List.map_set]
        ·rw [aY]
         ·exact S2.cell.at_ m b ms h5 h6
         ·intro zz
          subst zz
          have nd:=S2.lF.2.1
          have l1:=(List.getElem?_eq_some_iff.mp h5)
          have l2:=(List.getElem?_eq_some_iff.mp hth)
          obtain ⟨l1,l1'⟩:=l1
          obtain ⟨l2,l2'⟩:=l2
          rcases Nat.lt_trichotomy m n with hlt | heq | hgt
          ·exact List.pairwise_iff_getElem.mp nd m n l1 l2 hlt (l1'.trans l2'.symm)
          ·exact nm heq
          ·exact List.pairwise_iff_getElem.mp nd n m l2 l1 hgt (l2'.trans l1'.symm)
       exact q Θ σ _ ((lJ.Je kk ff S2).trans (lJ.Je kc (Fz.refl _) (S2.go kc cc)))
      ·cases hf
     ·cases hf
    ·cases hf
   ·cases hf
  ·cases hf
 ·cases hf
end
end L2
set_option maxHeartbeats 4000000
namespace L2
open PySem PySem.Spec PyProof.Rows PySem.W
def intsOf:List PyData→Option (List Int)
 | []=>some []
 | .int i::r=>match intsOf r with
  | some t=>some (i::t)
  | none=>none
 | _=>none
theorem mW {E:Hp}:∀{ds:List PyData} {ns:List Int} {vs:List V},intsOf ds=some ns→g8 E ds vs→vs=ns.map V.int
 | [],ns,vs,h,r=>by cases h; exact r
 | .int i::ds,ns,vs,h,r=>by
  unfold intsOf at h
  split at h
  ·rename_i t ht
   cases h
   obtain ⟨u,w,rfl,q,s⟩:=r
   rw [mW ht s]
   have:u=.int i:=q
   rw [this]
   rfl
  ·cases h
 | .none::_,_,_,h,_=>by cases h
 | .bool _::_,_,_,h,_=>by cases h
 | .str _::_,_,_,h,_=>by cases h
 | .list _::_,_,_,h,_=>by cases h
 | .tuple _::_,_,_,h,_=>by cases h
 | .dict _::_,_,_,h,_=>by cases h
def iI (i:Nat) (f:FE):FS:=fun env C=>match f env C with
 | some (.ow (.list ds),e1,C1)=>match intsOf ds with
  | some ns=>some (.nx,e1.set i (some (.ce C1.length)),C1++[ns])
  | none=>none
 | _=>none
section
variable {X:Cx} {pos:Pos}
theorem Oh {K:PySem.W.Frag} {i:Nat} {f:FE}:∀D σ H,tS K (iI i f) D σ H→JV (tE K f) (uG i) D σ H:=by
 rintro D σ H ⟨Z,Θ,env,C,fl,env',C',S,hf,q⟩
 unfold iI at hf
 split at hf
 ·rename_i ds e1 C1 h1
  split at hf
  ·rename_i ns hns
   cases hf
   refine ⟨Z,Θ,env,C,_,e1,C1,S,h1,fun v H1 k f R=>?_⟩
   obtain ⟨a,rfl,hn,S1,vs,ha,r⟩:=R
   have ev:=mW hns r
   subst ev
   have lF:=S1.lF
   have Ys:=List.nodup_cons.mp lF.1
   have cl:=S1.cell.len
   have c':jj (Θ++[a]) (C1++[ns]) H1:=by
    refine ⟨by rw [List.length_append,List.length_append,cl]; rfl,fun m b ms h5 h6=>?_⟩
    by_cases hm:m < Θ.length
    ·rw [List.getElem?_append_left hm] at h5
     rw [List.getElem?_append_left (by rw [cl]; exact hm)] at h6
     exact S1.cell.at_ m b ms h5 h6
    ·rw [List.getElem?_append_right (by omega)] at h5
     rw [List.getElem?_append_right (by omega)] at h6
     rw [cl] at h6
     cases hm0:m - Θ.length with
     | zero=>rw [hm0] at h5 h6; cases h5; cases h6; exact ha
     | succ j=>rw [hm0] at h5; simp at h5
   have o1:∀b∈bJ (e1.set i (some (.ce C1.length))) (σ.set i (some (.ref a))),b∈bJ e1 σ:=fun b m=>by
    rcases nM m with m | ⟨⟨_,z⟩,_⟩
    ·exact m
    ·cases z
   have S2:Sm K Z (Θ++[a]) e1 (C1++[ns]) σ H1:=by
    have mm:∀b,b∈aV Z (Θ++[a]) e1 σ ↔ b∈aV (a::Z) Θ e1 σ:=fun b=>by
     rw [bY,bY,List.mem_append,List.mem_singleton,List.mem_cons]
     constructor
     ·rintro (h | (h | h) | h)
      ·exact .inl (.inr h)
      ·exact .inr (.inl h)
      ·exact .inl (.inl h)
      ·exact .inr (.inr h)
     ·rintro ((h | h) | h | h)
      ·exact .inr (.inl (.inr h))
      ·exact .inl h
      ·exact .inr (.inl (.inl h))
      ·exact .inr (.inr h)
    refine ⟨S1.len,V7 Ys.2 ?_ lF.2.2.1 (fun b m=>?_) fun b m=>?_,fun b m=>S1.dom b (List.mem_cons_of_mem _ m),fun j x e=>?_,c'⟩
    ·rw [List.nodup_append]
     exact ⟨lF.2.1,List.nodup_cons.mpr ⟨by simp,List.nodup_nil⟩,fun b m c m' e=>by
      rw [List.mem_singleton] at m'
      subst e m'
      exact lF.2.2.2 b List.mem_cons_self m⟩
    ·intro m'
     rcases List.mem_append.mp m' with m' | m'
     ·exact lF.2.2.2 b (List.mem_cons_of_mem _ m) m'
     ·rw [List.mem_singleton.mp m'] at m
      exact Ys.1 m
    ·obtain ⟨p1,p2⟩:=S1.ie m
     refine ⟨fun z=>p1 (List.mem_cons_of_mem _ z),fun m'=>?_⟩
     rcases List.mem_append.mp m' with m' | m'
     ·exact p2 m'
     ·rw [List.mem_singleton.mp m'] at p1
      exact p1 List.mem_cons_self
    ·obtain ⟨v,e3,r3⟩:=S1.slot j x e
     rw [jM mm]
     refine ⟨v,e3,?_⟩
     cases x with
     | im d=>exact r3
     | ow d=>exact r3
     | ce n=>
      obtain ⟨b,e5,e6⟩:=r3
      exact ⟨b,e5,by rw [List.getElem?_append_left (List.getElem?_eq_some_iff.mp e6).1]; exact e6⟩
     | sc ns=>exact r3
   have S3:Sm K Z (Θ++[a]) (e1.set i (some (.ce C1.length))) (C1++[ns]) (σ.set i (some (.ref a))) H1:=
    S2.KY (fun _ z=>nomatch z) ⟨a,rfl,by rw [cl,List.getElem?_append_right (Nat.le_refl _),Nat.sub_self]; rfl⟩
   exact q (Θ++[a]) _ H1 ⟨⟨[a],rfl,fun b m=>by rw [List.mem_singleton.mp m]; exact hn⟩,nO k,fun b m=>.inl (f.own.subset (o1 b m)),S3⟩
  ·cases hf
 ·cases hf
theorem Wb {i:Nat} {x:Str} {e:Expr} {f:FE} {pos':Pos} (hN:X.N.Nodup) (hi:X.N[i]?=some x) (hx:Loc X.env.scope x) (he:PE X e (tE X.K f)) (hs:swapsWith e (some (.Name x pos')) pos.line X.env=pure false:=by rfl) (hf:X.fn x=true∨X.env.scope.names.lookup x=some .local:=by first | exact .inl rfl | exact .inr rfl | assumption):
  PS X (.Assign [.Name x pos'] e pos) (tS X.K (iI i f)):=(LC hN hi hx he hs hf).weak Oh
end
def mj (c:FT) (body:FS):Nat→FS
 | 0=>fun _ _=>none
 | n + 1=>fun env C=>match c env C with
  | some (false,C1)=>some (.nx,env,C1)
  | some (true,C1)=>match body env C1 with
   | some (.nx,e2,C2)=>mj c body n e2 C2
   | some (.ct,e2,C2)=>mj c body n e2 C2
   | some (.bk,e2,C2)=>some (.nx,e2,C2)
   | some (.rt r,e2,C2)=>some (.rt r,e2,C2)
   | none=>none
  | none=>none
def Ud:Nat:=100000
def fWh (c:FT) (body:FS):FS:=mj c body Ud
theorem G4 {K:PySem.W.Frag} {c:FT} {body:FS} {n:Nat}:∀D σ H,tS K (mj c body n) D σ H→LK (pY K c) (tS K body) D σ H:=by
 rintro D σ H ⟨Z,Θ,env,C,fl,env',C',S,hf,q⟩
 refine ⟨fun m σ1 H1=>∃Θ1 e1 C1,lJ K Z Θ env σ H Θ1 e1 C1 σ1 H1∧mj c body m e1 C1=some (fl,env',C'),⟨n,Θ,env,C,lJ.same S,hf⟩,?_⟩
 rintro m σ1 H1 ⟨Θ1,e1,C1,p,hf⟩
 cases m with
 | zero=>cases hf
 | succ m=>
  unfold mj at hf
  split at hf
  ·rename_i C2 h1
   cases hf
   exact ⟨Z,Θ1,env',C1,false,C',p.sm,h1,fun H2 k2 S2=>Ak (q Θ1 σ1 H2 (p.trans (lJ.Je k2 (Fz.refl _) S2)))⟩
  ·rename_i C2 h1
   refine ⟨Z,Θ1,e1,C1,true,C2,p.sm,h1,fun H2 k2 S2=>Al ⟨fun σ' H'=>∃Θ1 e1 C1,lJ K Z Θ env σ H Θ1 e1 C1 σ' H'∧mj c body m e1 C1=some (fl,env',C'),fun σ' H' h=>⟨m,Nat.lt_succ_self m,h⟩,?_⟩⟩
   have p2:=p.trans (lJ.Je k2 (Fz.refl _) S2)
   split at hf
   ·rename_i e3 C3 h2
    exact ⟨Z,Θ1,e1,C2,.nx,e3,C3,S2,h2,fun Θ3 σ3 H3 p3=>⟨Θ3,e3,C3,p2.trans p3,hf⟩⟩
   ·rename_i e3 C3 h2
    exact ⟨Z,Θ1,e1,C2,.ct,e3,C3,S2,h2,fun Θ3 σ3 H3 p3=>⟨Θ3,e3,C3,p2.trans p3,hf⟩⟩
   ·rename_i e3 C3 h2
    cases hf
    exact ⟨Z,Θ1,e1,C2,.bk,env',C',S2,h2,fun Θ3 σ3 H3 p3=>q Θ3 σ3 H3 (p2.trans p3)⟩
   ·rename_i r e3 C3 h2
    cases hf
    exact ⟨Z,Θ1,e1,C2,.rt r,env',C',S2,h2,fun Θ3 v H3 p3=>q Θ3 v H3 (p2.ret p3)⟩
   ·cases hf
  ·cases hf
theorem Oi {X:Cx} {pos:Pos} {c:Expr} {body:List Stmt} {t:FT} {f:FS} (hp:PassesOwn (model X.prog X.w) X.A X.env X.xe) (hc:PT X c (pY X.K t)) (hb:uW X body (tS X.K f)):PS X (.While c body [] pos) (tS X.K (fWh t f)):=(LQ hp hc hb).weak G4
abbrev FI:=En→Ce→Option (List PyData×En×Ce)
def DX (P T:List Addr) (H:Hp) (J:It) (its:List PyData):Prop:=∀(i:Nat) (H2:Hp) (P2:List Addr),bz (er P H) (er P2 H2)→bz (er T H) (er T H2)→(∀a∈P2,H2 a≠none)→
 (∀d,its[i]?=some d→J.go i H2∧∀x H3,J.Qm i H2 x H3→bz H2 H3∧RZ (er P2 H3) d x)∧(i=its.length→J.stop i H2)
def tI (K:PySem.W.Frag) (b:Bool) (f:FI):TI:=fun σ H R=>∃Z Θ env C its env' C',Sm K Z Θ env C σ H∧f env C=some (its,env',C')∧
 ∀J H',cg Θ H H'→Fz env env'→Sm K Z Θ env' C' σ H'→DX (aV Z Θ env' σ) (if b then Θ else aV Z Θ env' σ) H' J its→R J H'
theorem PI.weak {X:Cx} {tg e:Expr} {t t':TI} (h:PI X tg e t) (w:∀σ H Q,t' σ H Q→t σ H Q):PI X tg e t':=fun pins s σ H Q I q=>h pins s σ H Q I (w σ H Q q)
theorem PI.or {X:Cx} {tg e:Expr} {t t':TI} (h:PI X tg e t) (h':PI X tg e t'):PI X tg e (fun σ H R=>t σ H R∨t' σ H R):=fun pins s σ H R I q=>q.elim (h pins s σ H R I) (h' pins s σ H R I)
section
variable {K:PySem.W.Frag} {P T:List Addr} {H:Hp} {a:Addr} {ds:List PyData} {vs:List V}
theorem vC (ha:er T H a=some (.lst vs)) (r:g8 (er P H) ds vs):DX P T H (ZJ K a) ds:=fun i H2 P2 s1 s2 n=>by
 have h2:dW K H2 a vs:=dW.of (cj (s2 _ _ ha))
 refine ⟨fun d hd=>?_,fun hi=>⟨vs,h2,by rw [cG r,hi]; exact Nat.le_refl _⟩⟩
 obtain ⟨v,ev,rv⟩:=qJ r hd
 refine ⟨⟨vs,v,h2,ev⟩,fun x H3 y=>?_⟩
 obtain ⟨rfl,y⟩:=y
 have:=y vs h2
 rw [ev] at this
 cases this
 exact ⟨bz.refl _,rv.same s1⟩
theorem Bh (ha:er P H a=some (.tup vs)) (r:g8 (er P H) ds vs):DX P T H (ZK K a) ds:=fun i H2 P2 s1 s2 n=>by
 have h2:jz K H2 a vs:=jz.of (cj (s1 _ _ ha))
 refine ⟨fun d hd=>?_,fun hi=>⟨vs,h2,by rw [cG r,hi]; exact Nat.le_refl _⟩⟩
 obtain ⟨v,ev,rv⟩:=qJ r hd
 refine ⟨⟨vs,v,h2,ev⟩,fun x H3 y=>?_⟩
 obtain ⟨rfl,y⟩:=y
 have:=y vs h2
 rw [ev] at this
 cases this
 exact ⟨bz.refl _,rv.same s1⟩
def chars (z:Str):List PyData:=z.cps.toList.map fun c=>.str ⟨#[c]⟩
theorem Oj (z:Str):DX P T H (Z9 z) (chars z):=fun i H2 P2 s1 s2 n=>by
 refine ⟨fun d hd=>?_,fun hi=>?_⟩
 ·unfold chars at hd
  rw [List.getElem?_map] at hd
  cases hc:z.cps.toList[i]? with
  | none=>rw [hc] at hd; cases hd
  | some c=>
   rw [hc] at hd
   cases hd
   have hc':z.cps[i]?=some c:=by rw [←Array.getElem?_toList]; exact hc
   have hlt:i < z.cps.size:=by
    obtain ⟨h,_⟩:=Array.getElem?_eq_some_iff.mp hc'
    exact h
   refine ⟨hlt,fun x H3 y=>?_⟩
   obtain ⟨rfl,c',ec,rfl⟩:=y
   rw [hc'] at ec
   cases ec
   exact ⟨bz.refl _,rfl⟩
 ·show z.cps.size≤i
  rw [hi]
  unfold chars
  rw [List.length_map,Array.length_toList]
  exact Nat.le_refl _
def nQ (lo:Int) (n:Nat):List PyData:=(List.range n).map fun (k:Nat)=>.int (lo + (k:Int))
theorem Ol (lo:Int) (n:Nat):DX P T H (Y8 lo n) (nQ lo n):=fun i H2 P2 s1 s2 nn=>by
 refine ⟨fun d hd=>?_,fun hi=>?_⟩
 ·unfold nQ at hd
  rw [List.getElem?_map] at hd
  by_cases hlt:i < n
  ·rw [List.getElem?_range hlt] at hd
   cases hd
   refine ⟨hlt,fun x H3 y=>?_⟩
   obtain ⟨rfl,rfl⟩:=y
   exact ⟨bz.refl _,rfl⟩
  ·rw [List.getElem?_eq_none (by rw [List.length_range]; omega)] at hd
   cases hd
 ·show n≤i
  rw [hi]
  unfold nQ
  rw [List.length_map,List.length_range]
  exact Nat.le_refl _
end
def Zf:PyData→Option (List PyData)
 | .list ds=>some ds
 | .tuple ds=>some ds
 | .str z=>some (chars z)
 | _=>none
def iB (f:FB):FI:=fun env C=>match f env C with
 | some (d,e1,C1)=>match Zf d with
  | some its=>some (its,e1,C1)
  | none=>none
 | none=>none
def iV (f:FE):FI:=fun env C=>match f env C with
 | some (r,e1,C1)=>match still r with
  | .im d=>match Zf d with
   | some its=>some (its,e1,C1)
   | none=>none
  | _=>none
 | none=>none
def zx (f:FB):FI:=fun env C=>match f env C with
 | some (.int j,_,C1)=>if -(2 ^ 62)≤j∧j < 2 ^ 62 then some (nQ 0 j.toNat,env,C1) else none
 | _=>none
section
variable {X:Cx} {tg e:Expr}
theorem Bj {f:FB} (h:PE X e (nG X.K f)) (hgo:∀i u,letOwnedTupleGo tg i u=pure ():=by intro _ _; rfl):PI X tg e (tI X.K true (iB f)):=(((vg h).or (z9 h)).or (MN h hgo)).weak fun σ H R ⟨Z,Θ,env,C,its,env',C',S,hf,q⟩=>by
 unfold iB at hf
 split at hf
 ·rename_i d e1 C1 h1
  split at hf
  ·rename_i ys hi
   cases hf
   cases d <;> first | cases hi | skip
   ·refine .inr ⟨Z,Θ,env,C,_,env',C',S,h1,fun v H1 k f S1 b=>⟨_,b,q _ H1 k f S1 (Oj _)⟩⟩
   ·refine .inl (.inl ⟨Z,Θ,env,C,_,env',C',S,h1,fun v H1 k f S1 b=>?_⟩)
    obtain ⟨a,vs,rfl,ha,r⟩:=b
    exact ⟨a,rfl,⟨vs,dW.of (cj ha)⟩,q _ H1 k f S1 (vC ha r)⟩
   ·refine .inl (.inr ⟨Z,Θ,env,C,_,env',C',S,h1,fun v H1 k f S1 b=>?_⟩)
    obtain ⟨a,vs,rfl,ha,r⟩:=b
    exact ⟨a,rfl,⟨vs,jz.of (cj ha)⟩,q _ H1 k f S1 (Bh ha r)⟩
  ·cases hf
 ·cases hf
theorem K1 {f:FE} (h:PE X e (tE X.K f)) (hgo:∀i u,letOwnedTupleGo tg i u=pure ():=by intro _ _; rfl):PI X tg e (tI X.K false (iV f)):=(((vg h).or (z9 h)).or (MN h hgo)).weak fun σ H R ⟨Z,Θ,env,C,its,env',C',S,hf,q⟩=>by
 unfold iV at hf
 split at hf
 ·rename_i r e1 C1 h1
  split at hf
  ·rename_i d hd
   split at hf
   ·rename_i ys hi
    cases hf
    cases d <;> first | cases hi | skip
    ·refine .inr ⟨Z,Θ,env,C,_,env',C',S,h1,fun v H1 k f R=>?_⟩
     obtain ⟨S1,b⟩:=R.qx hd
     exact ⟨_,b,q _ H1 k f S1 (Oj _)⟩
    ·refine .inl (.inl ⟨Z,Θ,env,C,_,env',C',S,h1,fun v H1 k f R=>?_⟩)
     obtain ⟨S1,a,vs,rfl,ha,r⟩:=R.qx hd
     exact ⟨a,rfl,⟨vs,dW.of (cj ha)⟩,q _ H1 k f S1 (vC ha r)⟩
    ·refine .inl (.inr ⟨Z,Θ,env,C,_,env',C',S,h1,fun v H1 k f R=>?_⟩)
     obtain ⟨S1,a,vs,rfl,ha,r⟩:=R.qx hd
     exact ⟨a,rfl,⟨vs,jz.of (cj ha)⟩,q _ H1 k f S1 (Bh ha r)⟩
   ·cases hf
  ·cases hf
 ·cases hf
theorem kh {b:Bool} {a:Expr} {f:FB} {p pos:Pos} (hg:Gl X "range") (hm:X.mg "range"=none) (ha:PE X a (nG X.K f)) (hs:starEach [a] X.env=(false,eval a X.env)::starEach [] X.env:=by rfl) (hs':starEach [a] X.env=[(false,eval a X.env)]:=by rfl):PI X tg (.Call (.Name "range" p) [a] [] pos) (tI X.K b (zx f)):=
 (JX hg hm (bu ha bR hs) hs').weak fun σ H R ⟨Z,Θ,env,C,its,env',C',S,hf,q⟩=>by
  unfold zx at hf
  split at hf
  ·rename_i j e1 C1 h1
   split at hf
   ·rename_i hj
    cases hf
    refine ⟨Z,Θ,env,C,[.int j],e1,C',S,by unfold aP bF; rw [h1],fun vs H1 k f S1 b1=>?_⟩
    cases b1 with
    | cons b1 b2=>
     cases b2
     exact ⟨j,by rw [show _=V.int j from b1],hj.1,hj.2,q _ H1 k (Fz.refl _) (S.go k S1.cell) (Ol 0 j.toNat)⟩
   ·cases hf
  ·cases hf
end
def kj (g:FG) (body:FS):List PyData→FS
 | []=>fun env C=>some (.nx,env,C)
 | d::r=>fun env C=>match g d env with
  | some e1=>match body e1 C with
   | some (.nx,e2,C2)=>kj g body r e2 C2
   | some (.ct,e2,C2)=>kj g body r e2 C2
   | some (.bk,e2,C2)=>some (.nx,e2,C2)
   | some (.rt v,e2,C2)=>some (.rt v,e2,C2)
   | none=>none
  | none=>none
def dB (fi:FI) (g:FG) (body:FS):FS:=fun env C=>match fi env C with
 | some (its,e1,C1)=>kj g body its e1 C1
 | none=>none
theorem lJ.er {K:PySem.W.Frag} {Z Θ Θ1:List Addr} {env e1:En} {C1:Ce} {σ σ1:St} {H H1:Hp} (p:lJ K Z Θ env σ H Θ1 e1 C1 σ1 H1):bz (er (aV Z Θ env σ) H) (er (aV Z Θ1 e1 σ1) H1):=fun b o h=>by
 unfold L2.er at h ⊢
 split at h
 ·cases h
 ·rename_i n
  have hb:H b≠none:=by rw [h]; exact Option.some_ne_none _
  rw [if_neg]
  ·refine p.kp.keep b o h fun m=>n ?_
   rcases List.mem_append.mp m with m | m
   ·exact bY.mpr (.inr (.inl m))
   ·exact bY.mpr (.inr (.inr m))
  ·intro m
   rcases bY.mp m with m | m | m
   ·exact n (bY.mpr (.inl m))
   ·obtain ⟨Δ,e,hn⟩:=p.th.ex
    rw [e] at m
    rcases List.mem_append.mp m with m | m
    ·exact n (bY.mpr (.inr (.inl m)))
    ·exact hb (hn b m)
   ·rcases p.own b m with m | m
    ·exact n (bY.mpr (.inr (.inr m)))
    ·exact hb m
theorem Ry {P P2:List Addr} {H H2:Hp} (s:bz (er P H) (er P2 H2)):bz (er P H) (er P H2):=fun b o h=>by
 have h2:=cj (s b o h)
 unfold er at h ⊢
 split at h
 ·cases h
 ·rename_i n
  rw [if_neg n]
  exact h2
theorem Om {K:PySem.W.Frag} {fi:FI} {g:TG} {fg:FG} {body:FS} (L:WX K g fg):∀D σ H,tS K (dB fi fg body) D σ H→Xh (tI K false fi) g (tS K body) D σ H:=by
 rintro D σ H ⟨Z,Θ,env,C,fl,env',C',S,hf,q⟩
 unfold dB at hf
 split at hf
 ·rename_i its e1 C1 h1
  refine ⟨Z,Θ,env,C,its,e1,C1,S,h1,fun J H1 k1 f1 S1 it=>?_⟩
  have p1:=lJ.Je k1 f1 S1
  refine ⟨fun i m σ2 H2=>m=its.length - i∧i≤its.length∧∃Θ2 e2 C2,lJ K Z Θ e1 σ H1 Θ2 e2 C2 σ2 H2∧kj fg body (its.drop i) e2 C2=some (fl,env',C'),⟨its.length,rfl,Nat.zero_le _,Θ,e1,C1,lJ.same S1,hf⟩,?_⟩
  rintro i m σ2 H2 ⟨rfl,hi,Θ2,e2,C2,p2,hl⟩
  obtain ⟨Yu,Yv⟩:=it i H2 (aV Z Θ2 e2 σ2) p2.er (Ry p2.er) p2.sm.Du
  cases hd:its[i]? with
  | none=>
   have hi2:i=its.length:=by
    have:=List.getElem?_eq_none_iff.mp hd
    omega
   rw [hi2,List.drop_length] at hl
   cases hl
   exact .inl ⟨Yv hi2,q Θ2 σ2 H2 (p1.trans p2)⟩
  | some d=>
   have hlt:i < its.length:=(List.getElem?_eq_some_iff.mp hd).1
   have ed:its.drop i=d::its.drop (i + 1):=by
    rw [List.drop_eq_getElem_cons hlt]
    obtain ⟨_,e⟩:=List.getElem?_eq_some_iff.mp hd
    rw [e]
   rw [ed] at hl
   unfold kj at hl
   obtain ⟨go,yl⟩:=Yu d hd
   refine .inr ⟨go,fun σ' H'=>∃Θ2 e2 C2,lJ K Z Θ e1 σ H1 Θ2 e2 C2 σ' H'∧kj fg body (its.drop (i + 1)) e2 C2=some (fl,env',C'),fun σ' H' h=>⟨its.length - (i + 1),by omega,rfl,hlt,h⟩,fun x H3 y=>?_⟩
   obtain ⟨s3,r3⟩:=yl x H3 y
   have S3:=p2.sm.wI s3
   have p3:=p2.trans (lJ.Je (cg.of s3) (Fz.refl _) S3)
   split at hl
   ·rename_i e4 h4
    refine L Z Θ2 e2 C2 σ2 H3 x d e4 S3 r3 h4 _ fun σ4 S4 o4=>?_
    have p4:lJ K Z Θ e1 σ H1 Θ2 e4 C2 σ4 H3:=p3.trans ⟨Bd.refl _ _,cg.refl _ _,fun a m=>.inl (o4 a m),S4⟩
    split at hl
    ·rename_i e5 C5 h5
     exact ⟨Z,Θ2,e4,C2,.nx,e5,C5,S4,h5,fun Θ5 σ5 H5 p5=>⟨Θ5,e5,C5,p4.trans p5,hl⟩⟩
    ·rename_i e5 C5 h5
     exact ⟨Z,Θ2,e4,C2,.ct,e5,C5,S4,h5,fun Θ5 σ5 H5 p5=>⟨Θ5,e5,C5,p4.trans p5,hl⟩⟩
    ·rename_i e5 C5 h5
     cases hl
     exact ⟨Z,Θ2,e4,C2,.bk,env',C',S4,h5,fun Θ5 σ5 H5 p5=>q Θ5 σ5 H5 (p1.trans (p4.trans p5))⟩
    ·rename_i r e5 C5 h5
     cases hl
     exact ⟨Z,Θ2,e4,C2,.rt r,env',C',S4,h5,fun Θ5 v H5 p5=>q Θ5 v H5 (p1.ret (p4.ret p5))⟩
    ·cases hl
   ·cases hl
 ·cases hf
theorem iT {X:Cx} {pos:Pos} {tg iter:Expr} {body:List Stmt} {fi:FI} {g:TG} {fg:FG} {f:FS} (hp:PassesOwn (model X.prog X.w) X.A X.env X.xe) (hc:X.calm=true) (hi:PI X tg iter (tI X.K false fi)) (hg:PG X tg g) (L:WX X.K g fg) (hb:uW X body (tS X.K f))
  (hs:∀x,foldedSetIterable iter X.env x=pure x:=by intro _; rfl):PS X (.For tg iter body [] pos) (tS X.K (dB fi fg f)):=(U7 hp hc hi hg hb hs).weak (Om L)
end L2
set_option maxHeartbeats 4000000
namespace L2
open PySem PySem.Spec PyProof.Rows PySem.W
def Ue:rA→PyData→Option (List PyData)
 | .one,d=>some [d]
 | .many n,.tuple ds=>if ds.length=n then some ds else none
 | _,_=>none
def frB (js:List Nat) (env:En):En:=js.map fun j=>((env[j]?).join).map still
def qp (ds:List PyData):En:=ds.map fun d=>some (.im d)
def gm (T:rA) (ft:FT) (fe:FE) (fs:En):List PyData→Ce→Option (List PyData×Ce)
 | [],C=>some ([],C)
 | d::r,C=>match Ue T d with
  | some ts=>match ft (qp ts++fs) C with
   | some (false,C1)=>gm T ft fe fs r C1
   | some (true,C1)=>match fe (qp ts++fs) C1 with
    | some (x,_,C2)=>match still x with
     | .im y=>match gm T ft fe fs r C2 with
      | some (ys,C3)=>some (y::ys,C3)
      | none=>none
     | _=>none
    | none=>none
   | none=>none
  | none=>none
def rC (js:List Nat) (env:En):En:=env.mapIdx fun i x=>if i∈js then x.map still else x
def mq (fi:FI) (T:rA) (ft:FT) (fe:FE) (js:List Nat):FE:=fun env C=>match fi env C with
 | some (its,e1,C1)=>match gm T ft fe (frB js e1) its C1 with
  | some (ys,C2)=>if ys.length≤jA then some (.ow (.list ys),if dX ys then e1 else rC js e1,C2) else none
  | none=>none
 | none=>none
theorem Ug:∀{a b:En},a.length=b.length→(∀(i:Nat) (x y:Option Vl),a[i]?=some x→b[i]?=some y→fz1 x y)→Fz a b
 | [],[],_,_=>trivial
 | x::r,y::t,hl,h=>⟨h 0 x y rfl rfl,Ug (by simpa using hl) fun i u v h1 h2=>h (i + 1) u v (by simpa using h1) (by simpa using h2)⟩
 | [],_::_,hl,_=>by cases hl
 | _::_,[],hl,_=>by cases hl
theorem uo (js:List Nat) (env:En):Fz env (rC js env):=Ug (by unfold rC; rw [List.length_mapIdx]) fun i x y h1 h2=>by
 unfold rC at h2
 rw [List.getElem?_mapIdx,h1] at h2
 have h2:(if i∈js then Option.map still x else x)=y:=Option.some.inj h2
 rw [←h2]
 split
 ·cases x with
  | none=>exact .inl rfl
  | some x=>
   cases x with
   | ow d=>exact .inr ⟨d,rfl,rfl⟩
   | im d=>exact .inl rfl
   | ce n=>exact .inl rfl
   | sc ns=>exact .inl rfl
 ·exact .inl rfl
theorem Oo {js:List Nat} {env:En} {k:Nat} {x:Vl} (h:(frB js env)[k]?=some (some x)):∃j:Nat,js[k]?=some j∧(rC js env)[j]?=some (some x)∧∀d,x≠.ow d:=by
 unfold frB at h
 rw [List.getElem?_map] at h
 cases hj:js[k]? with
 | none=>rw [hj] at h; cases h
 | some j=>
  rw [hj] at h
  have h':((env[j]?).join).map still=some x:=Option.some.inj h
  refine ⟨j,rfl,?_,?_⟩
  ·unfold rC
   rw [List.getElem?_mapIdx]
   cases hv:env[j]? with
   | none=>rw [hv] at h'; cases h'
   | some y=>
    rw [hv] at h'
    show some (if j∈js then Option.map still y else y)=_
    rw [if_pos (List.mem_of_getElem? hj)]
    exact congrArg some h'
  ·cases hv:(env[j]?).join with
   | none=>rw [hv] at h'; cases h'
   | some y=>
    rw [hv] at h'
    have e:still y=x:=Option.some.inj h'
    rw [←e]
    intro d z
    cases y <;> cases z
theorem pJ:∀{env:En} {σ:St},(∀(i:Nat) (d:PyData),env[i]?≠some (some (.ow d)))→bJ env σ=[]
 | [],σ,_=>by cases σ <;> rfl
 | _::_,[],_=>rfl
 | x::e,v::s,h=>by
  rw [bJ,pJ (env:=e) (σ:=s) fun i d z=>h (i + 1) d (by simpa using z)]
  have h0:=h 0
  simp at h0
  unfold own1
  split
  ·rename_i d a
   exact absurd rfl (h0 d)
  ·rfl
section
variable {K:PySem.W.Frag} {Z Θ:List Addr} {env:En} {C C2:Ce} {σ:St} {H H2:Hp} {D:Addr}
abbrev qt (D:Addr) (Z:List Addr) (env:En) (σ:St):List Addr:=D::(Z++bJ env σ)
theorem jt {js:List Nat} {a:Addr} {eB:En} {sB:St} (h:bJ eB sB=[]):a∈aV (qt D Z env σ) Θ eB sB ↔ a=D∨a∈aV Z Θ env σ:=by
 rw [bY,bY,h,List.mem_cons,List.mem_append]
 constructor
 ·rintro ((h | h | h) | h | h)
  ·exact .inl h
  ·exact .inr (.inl h)
  ·exact .inr (.inr (.inr h))
  ·exact .inr (.inr (.inl h))
  ·nomatch h
 ·rintro (h | h | h | h)
  ·exact .inl (.inl h)
  ·exact .inl (.inr (.inl h))
  ·exact .inr (.inl h)
  ·exact .inl (.inr (.inr h))
theorem uq {js:List Nat} {ts:List PyData}:∀(i:Nat) (d:PyData),(qp ts++frB js env)[i]?≠some (some (.ow d)):=fun i d z=>by
 by_cases hi:i < (qp ts).length
 ·rw [List.getElem?_append_left hi] at z
  unfold qp at z
  rw [List.getElem?_map] at z
  cases h:ts[i]? with
  | none=>rw [h] at z; cases z
  | some t=>rw [h] at z; cases z
 ·rw [List.getElem?_append_right (by omega)] at z
  obtain ⟨j,_,_,h⟩:=Oo z
  exact h d rfl
theorem Sm.blk {js:List Nat} {ts:List PyData} {vs:List V} (S:Sm K Z Θ (rC js env) C σ H) (hD:H D=Option.none) (k:cg Θ H H2) (nt:NT (H2 D)) (c:jj Θ C2 H2) (r:g8 (er (aV (qt D Z (rC js env) σ) Θ [] []) H2) ts vs):
  Sm K (qt D Z (rC js env) σ) Θ (qp ts++frB js env) C2 (vs.map some++frees js σ) H2:=by
 have no:=pJ (env:=qp ts++frB js env) (σ:=vs.map some++frees js σ) uq
 have lF:=S.lF
 have lv:=cG r
 have Zg:(qp ts).length=ts.length:=by unfold qp; rw [List.length_map]
 have ee:er (aV (qt D Z (rC js env) σ) Θ (qp ts++frB js env) (vs.map some++frees js σ)) H2=er (aV (qt D Z (rC js env) σ) Θ [] []) H2:=jM fun a=>by rw [jt (js:=js) no,jt (js:=js) rfl]
 have sm:bz (er (aV Z Θ (rC js env) σ) H) (er (aV (qt D Z (rC js env) σ) Θ [] []) H2):=iM k S.KJ fun b m=>by
  rcases (jt (js:=js) rfl).mp m with rfl | m
  ·exact .inr hD
  ·exact .inl m
 refine ⟨?_,?_,fun b m=>?_,fun i x e=>?_,c⟩
 ·rw [List.length_append,List.length_append,List.length_map,lv,Zg]
  unfold frees frB
  rw [List.length_map,List.length_map]
 ·show (qt D Z (rC js env) σ++(Θ++bJ (qp ts++frB js env) (vs.map some++frees js σ))).Nodup
  rw [no]
  refine V7 (List.nodup_cons.mpr ⟨fun m=>?_,?_⟩) lF.2.1 List.nodup_nil (fun b m m'=>?_) (fun _ m=>nomatch m)
  ·rcases List.mem_append.mp m with m | m
   ·exact (S.dom D m).ne hD
   ·exact S.Du D (bY.mpr (.inr (.inr m))) hD
  ·rw [List.nodup_append]
   exact ⟨lF.1,lF.2.2.1,fun b m c' m' e=>by subst e; exact (S.ie m').1 m⟩
  ·rcases List.mem_cons.mp m with rfl | m
   ·exact S.Du b (bY.mpr (.inr (.inl m'))) hD
   ·rcases List.mem_append.mp m with m | m
    ·exact lF.2.2.2 b m m'
    ·exact (S.ie m).2 m'
 ·rcases List.mem_cons.mp m with rfl | m
  ·exact nt
  ·have:NT (H b)∧b∉Θ:=by
    rcases List.mem_append.mp m with m | m
    ·exact ⟨S.dom b m,lF.2.2.2 b m⟩
    ·exact ⟨S.Zd b (bY.mpr (.inr (.inr m))),(S.ie m).2⟩
   obtain ⟨⟨u,e,n⟩,nb⟩:=this
   exact ⟨u,k.keep _ _ e nb,n⟩
 ·rw [ee]
  by_cases hi:i < ts.length
  ·rw [List.getElem?_append_left (by rw [Zg]; exact hi)] at e
   unfold qp at e
   rw [List.getElem?_map] at e
   cases ht:ts[i]? with
   | none=>rw [ht] at e; cases e
   | some t=>
    rw [ht] at e
    cases e
    obtain ⟨v,ev,rv⟩:=qJ r ht
    exact ⟨v,by rw [List.getElem?_append_left (by rw [List.length_map,lv]; exact hi),List.getElem?_map,ev]; rfl,rv⟩
  ·rw [List.getElem?_append_right (by rw [Zg]; omega),Zg] at e
   obtain ⟨j,hj,hx,nx⟩:=Oo e
   obtain ⟨v,ev,rv⟩:=S.slot j x hx
   refine ⟨v,?_,rv.same sm fun d _ z=>absurd z (nx d)⟩
   rw [List.getElem?_append_right (by rw [List.length_map,lv]; omega),List.length_map,lv]
   unfold frees
   rw [List.getElem?_map,hj]
   show some ((σ[j]?).join)=_
   rw [ev]
   rfl
end
def gj:FT:=fun _ C=>some (true,C)
theorem lK {X:Cx}:Kg X [] (pY X.K gj):=fun pins s σ H Q I ⟨Z,Θ,env,C,b,C',S,hf,q⟩=>by
 cases hf
 exact Q3 pins s σ H Q I (q H (cg.refl _ _) S)
theorem sr {X:Cx} {c:Expr} {f:FT} (h:PT X c (pY X.K f)):Kg X [c] (pY X.K f):=Q4 h
theorem Uh {K:PySem.W.Frag} {T:rA} {E H:Hp} {d:PyData} {x:V} {ts:List PyData} (h:Ue T d=some ts) (r:RZ E d x) (s:bz E H):∃vs,TV K T x H vs∧g8 E ts vs:=by
 cases T with
 | one=>cases h; exact ⟨[x],rfl,x,[],rfl,r,rfl⟩
 | many n=>
  cases d <;> first | cases h | skip
  rename_i ds
  have h:(if ds.length=n then some ds else none)=some ts:=h
  split at h
  ·rename_i hl
   cases h
   obtain ⟨a,vs,rfl,ha,r⟩:=r
   exact ⟨vs,⟨a,rfl,jz.of (s _ _ ha),(cG r).trans hl⟩,r⟩
  ·cases h
theorem Jk {K:PySem.W.Frag} {fi:FI} {T:rA} {ft:FT} {fe:FE} {js:List Nat}:∀σ H Q,tE K (mq fi T ft fe js) σ H Q→Z7 K (tI K true fi) T (fun _=>pY K ft) (fun _=>tE K fe) js σ H Q:=by
 rintro σ H Q ⟨Z,Θ,env,C,res,env',C',S,hf,q⟩
 unfold mq at hf
 split at hf
 case h_2=>cases hf
 rename_i its e1 C1 h1
 split at hf
 case h_2=>cases hf
 rename_i ys C2 h2
 split at hf
 case isFalse=>cases hf
 rename_i hl
 cases hf
 refine ⟨Z,Θ,env,C,its,e1,C1,S,h1,fun J H1 k1 f1 S1 it D hD b=>?_⟩
 have Wc:=S1.fz (uo js e1)
 have it':DX (aV Z Θ e1 σ) Θ H1 J its:=it
 let PB:=aV (qt D Z (rC js e1) σ) Θ [] []
 have Jl:∀a,a∈PB ↔ a=D∨a∈aV Z Θ (rC js e1) σ:=fun a=>jt (js:=js) rfl
 have dPB:D∈PB:=(Jl D).mpr (.inl rfl)
 refine ⟨fun i m H2=>m=its.length - i∧i≤its.length∧∃acc jf C2 ys',cg Θ H1 H2∧jj Θ C2 H2∧H2 D=some (.lst jf)∧g8 (er PB H2) acc jf∧gm T ft fe (frB js e1) (its.drop i) C2=some (ys',C')∧acc++ys'=ys,
  ⟨its.length,rfl,Nat.zero_le _,[],[],C1,ys,cg.upd hD,⟨S1.cell.len,fun n b ns e2 e3=>?_⟩,aX,rfl,h2,rfl⟩,?_⟩
 ·have:=S1.cell.at_ n b ns e2 e3
  rw [aY (cu this hD)]
  exact this
 rintro i m H2 ⟨rfl,hi,acc,jf,Ci,ys',ki,ci,hDi,ri,hc,ea⟩
 have smP:bz (er (aV Z Θ e1 σ) H1) (er PB H2):=iM ki S1.KJ fun b m=>by
  rcases (Jl b).mp m with rfl | m
  ·exact .inr hD
  ·exact .inl ((uo js e1).sub b m)
 have SB0:Sm K (qt D Z (rC js e1) σ) Θ (qp []++frB js e1) Ci (([]:List V).map some++frees js σ) H2:=Wc.blk hD ki ⟨_,hDi,fun _ z=>nomatch z⟩ ci (show g8 _ [] [] from rfl)
 have Wd:∀a∈PB,H2 a≠none:=fun a m=>by
  have:=SB0.Du a ((jt (js:=js) (pJ (env:=qp []++frB js e1) uq)).mpr ((Jl a).mp m))
  exact this
 obtain ⟨Yu,Yv⟩:=it' i H2 PB smP (GF ki) Wd
 cases hd:its[i]? with
 | none=>
  have hi2:i=its.length:=by
   have:=List.getElem?_eq_none_iff.mp hd
   omega
  rw [hi2,List.drop_length] at hc
  cases hc
  rw [List.append_nil] at ea
  subst ea
  refine .inl ⟨Yv hi2,q _ H2 (k1.trans ki) ?_ ?_⟩
  ·split
   ·exact f1
   ·exact f1.trans (uo js e1)
  ·refine ⟨D,rfl,k1.none hD,?_⟩
   split
   ·rename_i hn
    have SD:=S1.DP hD ki ⟨_,hDi,fun _ z=>nomatch z⟩ ci
    exact ⟨SD,jf,hDi,ri.jW (fun a vs e=>wM SD (cj e)) hn⟩
   ·have SD:=Wc.DP hD ki ⟨_,hDi,fun _ z=>nomatch z⟩ ci
    refine ⟨SD,jf,hDi,?_⟩
    have:er PB H2=er (aV (D::Z) Θ (rC js e1) σ) H2:=jM fun a=>by
     rw [Jl]
     show _ ↔ a∈D::aV Z Θ (rC js e1) σ
     rw [List.mem_cons]
    rw [←this]
    exact ri
 | some d=>
  have hlt:i < its.length:=(List.getElem?_eq_some_iff.mp hd).1
  have ed:its.drop i=d::its.drop (i + 1):=by
   rw [List.drop_eq_getElem_cons hlt]
   obtain ⟨_,e⟩:=List.getElem?_eq_some_iff.mp hd
   rw [e]
  rw [ed] at hc
  unfold gm at hc
  obtain ⟨go,yl⟩:=Yu d hd
  refine .inr ⟨go,fun x H3 y=>?_⟩
  obtain ⟨s3,r3⟩:=yl x H3 y
  split at hc
  case h_2=>cases hc
  rename_i ts ht
  obtain ⟨vs,tv,rvs⟩:=Uh (K:=K) ht r3 (wB _ _)
  refine ⟨vs,tv,?_⟩
  have k3:cg Θ H1 H3:=ki.trans (cg.of s3)
  have Rz:H3 D=some (.lst jf):=s3 _ _ hDi
  have c3:jj Θ Ci H3:=⟨ci.len,fun n b ns e2 e3=>s3 _ _ (ci.at_ n b ns e2 e3)⟩
  have r3':g8 (er PB H3) acc jf:=ri.same (vo s3)
  have SB:Sm K (qt D Z (rC js e1) σ) Θ (qp ts++frB js e1) Ci (vs.map some++frees js σ) H3:=Wc.blk hD k3 ⟨_,Rz,fun _ z=>nomatch z⟩ c3 rvs
  have ePB:∀Hx,er (aV (qt D Z (rC js e1) σ) Θ (qp ts++frB js e1) (vs.map some++frees js σ)) Hx=er PB Hx:=fun Hx=>jM fun a=>by rw [jt (js:=js) (pJ uq),Jl]
  have Oq:D∉Θ:=fun m=>(S1.cell.dom D m).ne hD
  have stay:∀{Hx Hy:Hp},cg Θ Hx Hy→Hx D=some (.lst jf)→g8 (er PB Hx) acc jf→Hy D=some (.lst jf)∧g8 (er PB Hy) acc jf:=fun {Hx Hy} kk h1 h2=>
   ⟨kk.keep _ _ h1 Oq,h2.same (iM kk (fun a m=>(Jl a).mpr (.inr (bY.mpr (.inr (.inl m))))) fun a m=>.inl m)⟩
  split at hc
  ·rename_i Ct We
   refine ⟨_,Θ,_,Ci,false,Ct,SB,We,fun H4 k4 S4=>Ak ⟨its.length - (i + 1),by omega,rfl,hlt,acc,jf,Ct,ys',k3.trans k4,S4.cell,(stay k4 Rz r3').1,(stay k4 Rz r3').2,hc,ea⟩⟩
  ·rename_i Ct We
   split at hc
   case h_2=>cases hc
   rename_i xr eB CB hfe
   split at hc
   case h_2=>cases hc
   rename_i yd hyd
   split at hc
   case h_2=>cases hc
   rename_i zs Cz hzs
   cases hc
   refine ⟨_,Θ,_,Ci,true,Ct,SB,We,fun H4 k4 S4=>Al ⟨_,Θ,_,Ct,xr,eB,CB,S4,hfe,fun y H5 k5 f5 R5=>?_⟩⟩
   obtain ⟨S5,r5⟩:=R5.qx hyd
   obtain ⟨hD4,r4⟩:=stay k4 Rz r3'
   obtain ⟨hD5,Zh⟩:=stay k5 hD4 r4
   have noB:bJ eB (vs.map some++frees js σ)=[]:=by
    have:=(Fz.own (σ:=vs.map some++frees js σ) f5)
    rw [pJ uq] at this
    exact List.sublist_nil.mp this
   have e5:er (aV (qt D Z (rC js e1) σ) Θ eB (vs.map some++frees js σ)) H5=er PB H5:=jM fun a=>by rw [jt (js:=js) noB,Jl]
   rw [e5] at r5
   have la:=cG Zh
   have lt:acc.length < jA∧True:=by
    have:=congrArg List.length ea
    rw [List.length_append,List.length_cons] at this
    exact ⟨by omega,trivial⟩
   refine ⟨jf,hD5,by rw [la,sizeLine_eq]; have:=lt.1; unfold jA at this; omega,its.length - (i + 1),by omega,rfl,hlt,acc++[yd],jf++[y],CB,zs,?_,?_,aX,?_,hzs,by rw [←ea,List.append_assoc]; rfl⟩
   ·have kk:=(k3.trans k4).trans k5
    refine ⟨fun a o ha na=>?_,fun a ha=>?_⟩
    ·rw [aY (cu ha hD)]
     exact kk.keep _ _ ha na
    ·by_cases z:a=D
     ·subst z; rw [aX]; exact Option.some_ne_none _
     ·rw [aY z]; exact kk.dom a ha
   ·refine ⟨S5.cell.len,fun n b ns e2 e3=>?_⟩
    rw [aY]
    ·exact S5.cell.at_ n b ns e2 e3
    ·intro z
     subst z
     exact Oq (List.mem_of_getElem? e2)
   ·rw [G3 dPB]
    exact rT Zh ⟨y,[],rfl,r5,rfl⟩
  ·cases hc
section
variable {X:Cx} {NT NF:List Str} {js:List Nat} {elt tg iter:Expr} {ifs:List Expr} {T:rA} {fi:FI} {ft:FT} {fe:FE} {scope:Scope} {pos:Pos}
theorem su (B:qu X NT NF js scope) (tk:vZ tg NT T) (hc:X.calm=true) (hi:PI X tg iter (tI X.K true fi))
  (hin:∀b,Kg (X.bk (NT++NF) scope b) ifs (pY X.K ft)∧PE (X.bk (NT++NF) scope b) elt (tE X.K fe))
  (hs:∀x,foldedSetIterable iter X.env x=pure x:=by intro _; rfl):PE X (.ListComp elt [⟨tg,iter,ifs,0⟩] scope pos) (tE X.K (mq fi T ft fe js)):=(XS B tk hc hi hin hs).weak Jk
theorem wY {i:Nat} {y:Str} {pos' spos:Pos} (B:qu X NT NF js scope) (tk:vZ tg NT T) (hc:X.calm=true) (hi:PI X tg iter (tI X.K true fi))
  (hin:∀b,Kg (X.bk (NT++NF) scope b) ifs (pY X.K ft)∧PE (X.bk (NT++NF) scope b) elt (tE X.K fe))
  (hsw:swapsWith (.ListComp elt [⟨tg,iter,ifs,0⟩] scope pos) (some (.Name y pos')) spos.line X.env=pure true) (hN:X.N.Nodup) (hI:X.N[i]?=some y) (hy:X.env.scope.names.lookup y=some .local)
  (hs:∀x,foldedSetIterable iter X.env x=pure x:=by intro _; rfl):PS X (.Assign [.Name y pos'] (.ListComp elt [⟨tg,iter,ifs,0⟩] scope pos) spos) (tS X.K (bQ i (mq fi T ft fe js))):=(MJ B tk hc hi hin hsw hN hI hy hs).weak (wW Jk)
end
end L2
set_option maxHeartbeats 4000000
namespace L2
open PySem PySem.Spec PyProof.Rows PySem.W
def dZ (n:Nat):Vl→Bool
 | .ce m=>decide (m < n)
 | _=>true
def fN (k n:Nat) (body:FS):FN:=fun xs C=>if xs.length=k then match body (xs.map some++List.replicate (n - xs.length) none) C with
  | some (.rt r,_,C')=>if dZ C.length r then some (r,C'.take C.length) else none
  | some (.nx,_,C')=>some (.im .none,C'.take C.length)
  | _=>none
 else none
section
variable {K:PySem.W.Frag} {Z Θ:List Addr} {C:Ce} {H:Hp} {xs:List Vl} {vs:List V}
theorem wZ {E:Hp} (a:jL K E Θ xs vs):vs.length=xs.length:=by
 induction a with
 | nil=>rfl
 | cons _ _ ih=>rw [List.length_cons,List.length_cons,ih]
theorem RB {E:Hp} (a:jL K E Θ xs vs):∀{i:Nat} {x:Vl},xs[i]?=some x→∃v,vs[i]?=some v∧rZ K E Θ x v:=by
 induction a with
 | nil=>intro i x e; simp at e
 | cons h _ ih=>
  intro i x e
  cases i with
  | zero=>simp at e; subst e; exact ⟨_,rfl,h⟩
  | succ i=>
   obtain ⟨v,e2,h2⟩:=ih (i:=i) (by simpa using e)
   exact ⟨v,by simpa using e2,h2⟩
theorem Sm.start {n:Nat} (S:Sm K Z Θ [] C [] H) (a:jL K (er (aV Z Θ [] []) H) Θ xs vs):Sm K Z Θ (xs.map some++List.replicate n Option.none) C (vs.map some++List.replicate n Option.none) H∧bJ (xs.map some++List.replicate n Option.none) (vs.map some++List.replicate n Option.none)=[]:=by
 have lv:=wZ a
 have at':∀{i:Nat} {x:Vl},(xs.map some++List.replicate n Option.none)[i]?=some (some x)→∃v,vs[i]?=some v∧rZ K (er (aV Z Θ [] []) H) Θ x v∧i < vs.length:=fun {i x} e=>by
  by_cases hi:i < xs.length
  ·rw [List.getElem?_append_left (by rw [List.length_map]; exact hi),List.getElem?_map] at e
   cases hx:xs[i]? with
   | none=>rw [hx] at e; cases e
   | some y=>
    rw [hx] at e
    cases e
    obtain ⟨v,e1,h⟩:=RB a hx
    exact ⟨v,e1,h,by rw [lv]; exact hi⟩
  ·rw [List.getElem?_append_right (by rw [List.length_map]; omega)] at e
   have:=List.mem_of_getElem? e
   exact nomatch (List.eq_of_mem_replicate this)
 have no:bJ (xs.map some++List.replicate n Option.none) (vs.map some++List.replicate n Option.none)=[]:=pJ fun i d e=>by
  obtain ⟨v,_,h,_⟩:=at' e
  exact h
 refine ⟨⟨by simp [lv],?_,S.dom,fun i x e=>?_,S.cell⟩,no⟩
 ·show (Z++(Θ++bJ _ _)).Nodup
  rw [no]
  exact S.nd
 ·obtain ⟨v,e1,h,hl⟩:=at' e
  refine ⟨v,by rw [List.getElem?_append_left (by rw [List.length_map]; exact hl),List.getElem?_map,e1]; rfl,?_⟩
  have ee:er (aV Z Θ (xs.map some++List.replicate n Option.none) (vs.map some++List.replicate n Option.none)) H=er (aV Z Θ [] []) H:=by
   show er (Z++(Θ++bJ _ _)) H=_
   rw [no]
   rfl
  rw [ee]
  cases x with
  | im d=>exact h
  | ow d=>exact h.elim
  | ce m=>exact h
  | sc ns=>exact h
theorem Sm.cut {Δ:List Addr} (S:Sm K Z (Θ++Δ) [] C [] H):Sm K Z Θ [] (C.take Θ.length) [] H:=by
 have lF:=S.lF
 have cl:=S.cell.len
 rw [List.length_append] at cl
 refine ⟨rfl,V7 lF.1 (List.nodup_append.mp lF.2.1).1 List.nodup_nil (fun b m m'=>lF.2.2.2 b m (List.mem_append_left _ m')) (fun _ m=>nomatch m),S.dom,fun i x e=>by simp at e,⟨by rw [List.length_take]; omega,fun n a ns e1 e2=>?_⟩⟩
 have hn:n < Θ.length:=(List.getElem?_eq_some_iff.mp e1).1
 rw [List.getElem?_take,if_pos hn] at e2
 exact S.cell.at_ n a ns (by rw [List.getElem?_append_left hn]; exact e1) e2
theorem Jd.cut {Θ':List Addr} {H':Hp} {C':Ce} {O:List Addr} {r:Vl} {v:V} (t:Bd Θ Θ' H) (ok:dZ Θ.length r=true) (no:O=[]) (h:Jd K Z Θ' C' O H H' r v):Res K Z Θ [] (C'.take Θ.length) [] H H' r v:=by
 obtain ⟨Δ,rfl,hn⟩:=t.ex
 have sm:∀{Y:List Addr},bz (er (aV Y (Θ++Δ) [] []) H') (er (aV Y Θ [] []) H'):=fun {Y}=>lZ fun a m=>by
  rcases bY.mp m with m | m | m
  ·exact bY.mpr (.inl m)
  ·exact bY.mpr (.inr (.inl (List.mem_append_left _ m)))
  ·nomatch m
 cases r with
 | im d=>exact ⟨h.1.cut,h.2.same sm⟩
 | ow d=>
  obtain ⟨a,e,m,S,r⟩:=h
  refine ⟨a,e,?_,S.cut,r.same sm fun _ h=>h⟩
  rcases m with m | m
  ·rw [no] at m; nomatch m
  ·exact m
 | ce n=>
  obtain ⟨S,a,e,e2⟩:=h
  refine ⟨S.cut,a,e,?_⟩
  rw [List.getElem?_append_left (of_decide_eq_true ok)] at e2
  exact e2
 | sc ns=>
  obtain ⟨S,a,e,q⟩:=h
  exact ⟨S.cut,a,e,sm.seq q⟩
end
section
variable {P:Program} {w:World} {K:PySem.W.Frag} {mg:Str→Option Value} {base:Heap}
theorem kE {x qual:Str} {st:Stmt} {f:Addr} {fd:FuncData} {N ps:List Str} {k:Nat} {body:FS} {k1 k2:Nat} (F:yF K x qual st f fd) (S:dw N ps (aL st))
  (hb:∀(cdv:Value) (A:Around) (outer:List Env) (s:Shared) (H:Hp) (E:XK),jh k (A.deeper (envOfC qual (aL st) s.heap.objs.size f cdv))→uW (FZ uY P w K mg base N qual (aL st) f cdv A outer s H E).Qx (cJ st) (tS K body))
  (e1:k1=ps.length:=by rfl) (e2:k2=N.length:=by rfl):gJ P w K mg base uY (k + 1) f fd ps (spT K (fN k1 k2 body)):=by
 subst e1 e2
 refine F.ok S (fun vs H Q E h=>?_) (fun cdv A outer s H vs Q E hr h=>⟨_,hb cdv A outer s H E hr,?_⟩)
 ·obtain ⟨Z,Θ,C,xs,r,C',S0,a,hf,_⟩:=h
  unfold fN at hf
  split at hf
  ·rename_i hl; rw [wZ a,hl]
  ·cases hf
 ·obtain ⟨Z,Θ,C,xs,r,C',S0,a,hf,q⟩:=h
  unfold fN at hf
  split at hf
  case isFalse=>cases hf
  rename_i hl
  have lv:=wZ a
  obtain ⟨S1,no⟩:=S0.start (n:=N.length - vs.length) a
  rw [lv] at S1 no
  have hs:start N vs=vs.map some++List.replicate (N.length - xs.length) none:=by unfold start; rw [lv]
  rw [hs]
  have cl:=S0.cell.len
  split at hf
  ·rename_i r0 e' C1 hb'
   split at hf
   ·rename_i hok
    cases hf
    refine ⟨Z,Θ,_,C,.rt r,e',C1,S1,hb',fun Θ' v H' R=>?_⟩
    have kp:=R.kp
    rw [no,List.append_nil] at kp
    rw [cl] at q hok
    exact q v H' kp (R.ok.cut R.th hok no)
   ·cases hf
  ·rename_i e' C1 hb'
   cases hf
   refine ⟨Z,Θ,_,C,.nx,e',C1,S1,hb',fun Θ' σ' H' R=>?_⟩
   have kp:=R.kp
   rw [no,List.append_nil] at kp
   obtain ⟨Δ,e,hn⟩:=R.th.ex
   have S2:=R.sm.none
   rw [e] at S2
   rw [cl] at q
   exact q .non H' kp ⟨S2.cut,rfl⟩
  ·cases hf
theorem Wf {f:FN} {C':Ce} {H:Hp} {a:Addr} {ns:List Int} {E:XK} (hS:dW K H a (ns.map V.int)) (h:f [.sc ns] []=some (.im (.bool true),C')):spT K f [.ref a] H (fun v _=>v=.bl true) E:=by
 refine ⟨[],[],[],[.sc ns],_,C',⟨rfl,List.nodup_nil,(fun _ m=>nomatch m),fun i x e=>by simp at e,⟨rfl,fun n b ms e _=>by simp at e⟩⟩,.cons ⟨a,rfl,?_⟩ .nil,h,fun v H' _ R=>R.2⟩
 show dW K (er [] H) a _
 rw [wC]
 exact hS
end
def cY (i:Nat):FE:=fun env C=>match env[i]? with
 | some (some (.sc ns))=>some (.im (.int ns.length),env,C)
 | _=>none
def ir (i:Nat) (f:FB):FE:=fun env C=>match env[i]? with
 | some (some (.sc ns))=>match f env C with
  | some (.int k,_,C1)=>match j0 ns k with
   | some z=>some (.im (.int z),env,C1)
   | none=>none
  | _=>none
 | _=>none
section
variable {X:Cx} {o k:Expr} {i:Nat} {p pos:Pos}
theorem Jm (ho:PE X o (yH i)) (hg:Gl X "len") (hm:X.mg "len"=none) (hv:bootBuiltins "len"=some (.builtin "len"))
  (he:starEach [o] X.env=(false,eval o X.env)::starEach [] X.env:=by rfl) (hpl:(backTo pos (starEach [] X.env)).any (·.1)=false:=by rfl):PE X (.Call (.Name "len" p) [o] [] pos) (tE X.K (cY i)):=
 (rF rJ hg hm hv (gw ho lY he) (by decide) (by decide) he hpl).weak fun σ H Q ⟨Z,Θ,env,C,r,env',C',S,hf,q⟩=>by
  unfold cY at hf
  split at hf
  ·rename_i ns h0
   cases hf
   obtain ⟨v,ev,a,rfl,sq⟩:=S.slot i _ h0
   have:=q (.int ns.length) H (cg.refl _ _) (Fz.refl _) ⟨S,rfl⟩
   exact ⟨_,ev,a,_,rfl,.inl ((wB _ _).seq sq),by rw [List.length_map]; exact this⟩
  ·cases hf
theorem Wg {f:FB} (ho:PE X o (yH i)) (hk:PE X k (nG X.K f)) (hs:vh k):PE X (.Subscript o k pos) (tE X.K (ir i f)):=(Mr Af ho hk hs).weak fun σ H Q ⟨Z,Θ,env,C,r,env',C',S,hf,q⟩=>by
 unfold ir at hf
 split at hf
 case h_2=>cases hf
 rename_i ns h0
 split at hf
 case h_2=>cases hf
 rename_i z e1 C1 h1
 split at hf
 case h_2=>cases hf
 rename_i y hy
 cases hf
 obtain ⟨v,ev,a,rfl,sq⟩:=S.slot i _ h0
 refine ⟨_,ev,Z,Θ,env,C,_,e1,C',S,h1,fun w H1 k1 f1 S1 b1=>?_⟩
 have S2:=S.go k1 S1.cell
 obtain ⟨v2,ev2,a2,ea2,sq2⟩:=S2.slot i _ h0
 rw [ev] at ev2
 cases ev2
 cases ea2
 refine ⟨a,_,z,.int y,rfl,b1,(wB _ _).seq sq2,?_,q _ H1 k1 (Fz.refl _) ⟨S2,rfl⟩⟩
 unfold j0 at hy ⊢
 rw [List.length_map]
 cases hj:oV ns.length z with
 | none=>rw [hj] at hy; cases hy
 | some j=>
  rw [hj] at hy
  show (ns.map V.int)[j]?=_
  rw [List.getElem?_map,show ns[j]?=some y from hy]
  rfl
end
end L2
set_option maxHeartbeats 4000000
namespace L2
open PySem PySem.Spec PyProof.Rows PySem.W
section
variable {K:PySem.W.Frag} {X:Cx}
theorem kI {Z Θ:List Addr} {env:En} {σ:St} {H:Hp} {d:PyData} {vs:List V} (h:IK Z Θ env σ H [d] vs):∃v,vs=[v]∧gH Z Θ env σ H d v:=by
 cases h with
 | cons a b=>cases b; exact ⟨_,rfl,a⟩
theorem Ui {Z Θ:List Addr} {env:En} {σ:St} {H:Hp} {d e:PyData} {vs:List V} (h:IK Z Θ env σ H [d,e] vs):∃v w,vs=[v,w]∧gH Z Θ env σ H d v∧gH Z Θ env σ H e w:=by
 cases h with
 | cons a b=>
  cases b with
  | cons b c=>cases c; exact ⟨_,_,rfl,a,b⟩
def RC:PyData→Option Nat
 | .list ds=>some ds.length
 | .tuple ds=>some ds.length
 | .str z=>if z.length≤jA then some z.length else none
 | .dict kvs=>if (cV fP kvs).isSome then some kvs.length else none
 | _=>none
def iU:List PyData→Option Vl
 | [d]=>(RC d).map fun n=>.im (.int n)
 | _=>none
def Uj (K:PySem.W.Frag):List V→Hp→VK→Prop:=fun xs H Q=>((∃p ys,xs=[.ref p]∧(dW K H p ys∨jz K H p ys)∧Q (.int ys.length) H)∨∃z,xs=[.str z]∧z.length≤sizeLine∧Q (.int z.length) H)∨∃a kvs,xs=[V.ref a]∧H a=some (.dK kvs)∧Q (.int kvs.length) H
theorem jk:dF X (.builtin "len") (Uj X.K):=(rJ.or Ai).or Ke
theorem qO:zq K (Uj K) iU:=by
 intro Z Θ env C σ H xs ds res S b e Q q
 unfold iU at e
 split at e
 case h_2=>cases e
 rename_i d
 obtain ⟨v,rfl,bb⟩:=kI b
 cases hn:RC d with
 | none=>rw [hn] at e; cases e
 | some n=>
  rw [hn] at e
  cases e
  have fin:=q (.int n) H (cg.refl _ _) (bL S rfl rfl)
  cases d <;> first | cases hn | skip
  ·rename_i z
   simp only [RC] at hn
   split at hn
   ·rename_i hl
    cases hn
    cases bb.str
    exact .inl (.inr ⟨z,rfl,gk hl,fin⟩)
   ·cases hn
  ·obtain ⟨a,vs,rfl,ha,r⟩:=bb.lst
   exact .inl (.inl ⟨a,vs,rfl,.inl (dW.of ha),by rw [cG r]; exact fin⟩)
  ·obtain ⟨a,vs,rfl,ha,r⟩:=bb.tup
   exact .inl (.inl ⟨a,vs,rfl,.inr (jz.of ha),by rw [cG r]; exact fin⟩)
  ·rename_i kvs
   simp only [RC] at hn
   split at hn
   ·rename_i hs
    cases hn
    obtain ⟨a,vs,rfl,da,r⟩:=bb.dct
    rcases da with ⟨ks,h1,ha⟩ | ⟨ks,⟨ne,h2⟩,ha⟩
    ·refine .inr ⟨a,_,rfl,ha,?_⟩
     rw [List.length_zip,jC h1,rR r,Nat.min_self]
     exact fin
    ·obtain ⟨ks',h1⟩:=Option.isSome_iff_exists.mp hs
     exact absurd (j6 h1 h2) ne
   ·cases hn
def sy:List PyData→Option Vl
 | [.int i]=>some (.im (.int (if i < 0 then -i else i)))
 | _=>none
theorem Ot:zq K (fun xs H Q=>∃i,xs=[.int i]∧Q (.int (if i < 0 then -i else i)) H) sy:=by
 intro Z Θ env C σ H xs ds res S b e Q q
 unfold sy at e
 split at e
 case h_2=>cases e
 cases e
 obtain ⟨v,rfl,bb⟩:=kI b
 cases bb.int
 exact ⟨_,rfl,q _ H (cg.refl _ _) (bL S rfl rfl)⟩
def zy:List PyData→Option Vl
 | [.int i]=>some (.im (.int i))
 | [.bool k]=>some (.im (.int (if k then 1 else 0)))
 | _=>none
theorem Wh:zq K (fun xs H Q=>(∃i,xs=[.int i]∧Q (.int i) H)∨∃k,xs=[.bl k]∧Q (.int (if k then 1 else 0)) H) zy:=by
 intro Z Θ env C σ H xs ds res S b e Q q
 unfold zy at e
 split at e
 case h_3=>cases e
 ·cases e
  obtain ⟨v,rfl,bb⟩:=kI b
  cases bb.int
  exact .inl ⟨_,rfl,q _ H (cg.refl _ _) (bL S rfl rfl)⟩
 ·cases e
  obtain ⟨v,rfl,bb⟩:=kI b
  cases (show v=.bl _ from bb)
  exact .inr ⟨_,rfl,q _ H (cg.refl _ _) (bL S rfl rfl)⟩
def Bl:List PyData→Option Vl
 | [.int i,.int j]=>some (.im (.int (if j > i then j else i)))
 | _=>none
def ur:List PyData→Option Vl
 | [.int i,.int j]=>some (.im (.int (if j < i then j else i)))
 | _=>none
theorem RG:zq K (fun xs H Q=>∃i j,xs=[.int i,.int j]∧Q (.int (if j > i then j else i)) H) Bl:=by
 intro Z Θ env C σ H xs ds res S b e Q q
 unfold Bl at e
 split at e
 case h_2=>cases e
 cases e
 obtain ⟨v,w,rfl,b1,b2⟩:=Ui b
 cases b1.int; cases b2.int
 exact ⟨_,_,rfl,q _ H (cg.refl _ _) (bL S rfl rfl)⟩
theorem RJ:zq K (fun xs H Q=>∃i j,xs=[.int i,.int j]∧Q (.int (if j < i then j else i)) H) ur:=by
 intro Z Θ env C σ H xs ds res S b e Q q
 unfold ur at e
 split at e
 case h_2=>cases e
 cases e
 obtain ⟨v,w,rfl,b1,b2⟩:=Ui b
 cases b1.int; cases b2.int
 exact ⟨_,_,rfl,q _ H (cg.refl _ _) (bL S rfl rfl)⟩
def boolsOf:List PyData→Option (List Bool)
 | []=>some []
 | .bool b::r=>match boolsOf r with
  | some t=>some (b::t)
  | none=>none
 | _=>none
theorem zA {E:Hp}:∀{ds:List PyData} {ns:List Bool} {vs:List V},boolsOf ds=some ns→g8 E ds vs→vs=ns.map V.bl
 | [],ns,vs,h,r=>by cases h; exact r
 | .bool i::ds,ns,vs,h,r=>by
  unfold boolsOf at h
  split at h
  ·rename_i t ht
   cases h
   obtain ⟨u,w,rfl,q,s⟩:=r
   rw [zA ht s]
   have:u=.bl i:=q
   rw [this]
   rfl
  ·cases h
 | .none::_,_,_,h,_=>by cases h
 | .int _::_,_,_,h,_=>by cases h
 | .str _::_,_,_,h,_=>by cases h
 | .list _::_,_,_,h,_=>by cases h
 | .tuple _::_,_,_,h,_=>by cases h
 | .dict _::_,_,_,h,_=>by cases h
def Ou:List PyData→Option Vl
 | [.list ds]=>(boolsOf ds).map fun bs=>.im (.bool (bs.all id))
 | _=>none
theorem Wi:zq K (fun xs H Q=>∃(p:Addr) (bs:List Bool),xs=[.ref p]∧dW K H p (bs.map V.bl)∧Q (.bl (bs.all id)) H) Ou:=by
 intro Z Θ env C σ H xs ds res S b e Q q
 unfold Ou at e
 split at e
 case h_2=>cases e
 rename_i ds
 cases hb:boolsOf ds with
 | none=>rw [hb] at e; cases e
 | some bs=>
  rw [hb] at e
  cases e
  obtain ⟨v,rfl,bb⟩:=kI b
  obtain ⟨a,vs,rfl,ha,r⟩:=bb.lst
  rw [zA hb r] at ha
  exact ⟨a,bs,rfl,dW.of ha,q _ H (cg.refl _ _) (bL S rfl rfl)⟩
def kJ:List PyData→Option Vl
 | [d]=>if KD d&&d.showable&&decide (d.depth≤60)&&decide (d.shown.length≤jA) then some (.im (.str d.shown)) else none
 | _=>none
theorem Jo:zq K (fun xs H Q=>∃v d,xs=[v]∧RD K H d v∧d.showable=true∧d.depth≤60∧d.shown.length≤sizeLine∧Q (.str d.shown) H) kJ:=by
 intro Z Θ env C σ H xs ds res S b e Q q
 unfold kJ at e
 split at e
 case h_2=>cases e
 rename_i d
 split at e
 case isFalse=>cases e
 rename_i h
 cases e
 rw [Bool.and_eq_true,Bool.and_eq_true,Bool.and_eq_true,decide_eq_true_iff,decide_eq_true_iff] at h
 obtain ⟨v,rfl,bb⟩:=kI b
 exact ⟨v,d,rfl,(bb.rx h.1.1.1).rd,h.1.1.2,h.1.2,gk h.2,q _ H (cg.refl _ _) (bL S rfl rfl)⟩
def eV:List PyData→Option Vl
 | [.list ds]=>some (.im (.tuple ds))
 | [.tuple ds]=>some (.im (.tuple ds))
 | _=>none
theorem pK:zq K (fun xs H Q=>∃p ys,xs=[.ref p]∧((dW K H p ys∧∀l,H l=none→Q (.ref l) (upd H l (.tup ys)))∨(jz K H p ys∧Q (.ref p) H))) eV:=by
 intro Z Θ env C σ H xs ds res S b e Q q
 unfold eV at e
 split at e
 case h_3=>cases e
 ·cases e
  obtain ⟨v,rfl,bb⟩:=kI b
  obtain ⟨a,vs,rfl,ha,r⟩:=bb.lst
  exact ⟨a,vs,rfl,.inl ⟨dW.of ha,fun l hl=>q _ _ (cg.upd hl) (vz S r hl)⟩⟩
 ·cases e
  obtain ⟨v,rfl,bb⟩:=kI b
  obtain ⟨a,vs,rfl,ha,r⟩:=bb.tup
  exact ⟨a,vs,rfl,.inr ⟨jz.of ha,q _ H (cg.refl _ _) ⟨S,bb⟩⟩⟩
end
def iW (n:String):PyData→Option Bool
 | .none=>some false
 | .bool _=>some (n=="bool" || n=="int")
 | .int _=>some (n=="int")
 | .str _=>some (n=="str")
 | .list _=>some (n=="list")
 | .tuple _=>some (n=="tuple")
 | .dict _=>none
def Ov (n:String):Bool:=n=="bool" || n=="int" || n=="str" || n=="list" || n=="tuple"
theorem G5 {K:PySem.W.Frag} {n:String} {d:PyData} {b:Bool} (hn:Ov n=true) (e:iW n d=some b):PySem.W.kitOne K (X6 d) (.type n)=some b:=by
 unfold Ov at hn
 simp only [Bool.or_eq_true,beq_iff_eq] at hn
 rcases hn with (((rfl | rfl) | rfl) | rfl) | rfl <;> cases d <;> cases e <;> rfl
theorem DY {n:String} {d:PyData} {b:Bool} (e:iW n d=some b):∀kvs,d≠.dict kvs:=fun kvs z=>by subst z; cases e
theorem gH.ty {K:PySem.W.Frag} {Z Θ:List Addr} {env:En} {σ:St} {H:Hp} {d:PyData} {v:V} (h:gH Z Θ env σ H d v) (hd:∀kvs,d≠.dict kvs):oY K H v (X6 d):=by
 cases d with
 | none=>exact RX.ty (d:=.none) h
 | bool b=>exact RX.ty (d:=.bool b) h
 | int i=>exact RX.ty (d:=.int i) h
 | str z=>exact RX.ty (d:=.str z) h
 | list ds=>
  obtain ⟨a,vs,rfl,ha,r⟩:=h.lst
  exact .lst ha
 | tuple ds=>
  obtain ⟨a,vs,rfl,ha,r⟩:=h.tup
  exact .tup ha
 | dict kvs=>exact absurd rfl (hd kvs)
end L2
set_option maxHeartbeats 4000000
namespace L2
open PySem PySem.Spec PyProof.Rows PySem.W
def fU (n:String) (f:FB):FE:=fun env C=>match f env C with
 | some (d,_,C1)=>match iW n d with
  | some b=>some (.im (.bool b),env,C1)
  | none=>none
 | none=>none
def fB (m n:String) (f:FB):FE:=fun env C=>match f env C with
 | some (d,_,C1)=>match iW m d,iW n d with
  | some p,some q=>some (.im (.bool (p || q)),env,C1)
  | _,_=>none
 | none=>none
section
variable {X:Cx} {a t t':Expr} {p pos tp:Pos} {x1:Nat}
theorem mC {n:String} {f:FB} (hn:Ov n=true) (ha:PE X a (nG X.K f)) (ht:PE X t (tC (.ty n))) (hg:Gl X "isinstance") (hm:X.mg "isinstance"=none) (hv:bootBuiltins "isinstance"=some (.builtin "isinstance"))
  (he:starEach [a,t] X.env=(false,eval a X.env)::starEach [t] X.env:=by rfl) (he2:starEach [t] X.env=(false,eval t X.env)::starEach [] X.env:=by rfl) (hpl:(backTo pos (starEach [t] X.env)).any (·.1)=false:=by rfl):
  PE X (.Call (.Name "isinstance" p) [a,t] [] pos) (tE X.K (fU n f)):=
 (rF CQ hg hm hv (gw ha (gw ht lY he2) he) (by decide) (by decide) he hpl).weak fun σ H Q ⟨Z,Θ,env,C,r,env',C',S,hf,q⟩=>by
  unfold fU at hf
  split at hf
  case h_2=>cases hf
  rename_i d e1 C1 h1
  split at hf
  case h_2=>cases hf
  rename_i b hb
  cases hf
  refine ⟨Z,Θ,env,C,d,e1,C',S,h1,fun v H1 k f S1 b1=>⟨v,n,X6 d,b,rfl,b1.ty (DY hb),G5 hn hb,q _ H1 k (Fz.refl _) ⟨S.go k S1.cell,rfl⟩⟩⟩
theorem RK {m n:String} {f:FB} (hm':Ov m=true) (hn:Ov n=true) (ha:PE X a (nG X.K f)) (ht:PE X t (tC (.ty m))) (ht':PE X t' (tC (.ty n))) (hg:Gl X "isinstance") (hm:X.mg "isinstance"=none) (hv:bootBuiltins "isinstance"=some (.builtin "isinstance"))
  (he:starEach [a,.Tuple [t,t'] x1 tp] X.env=(false,eval a X.env)::starEach [.Tuple [t,t'] x1 tp] X.env:=by rfl) (he2:starEach [.Tuple [t,t'] x1 tp] X.env=(false,eval (.Tuple [t,t'] x1 tp) X.env)::starEach [] X.env:=by rfl)
  (h3:starEach [t,t'] X.env=(false,eval t X.env)::starEach [t'] X.env:=by rfl) (h4:starEach [t'] X.env=(false,eval t' X.env)::starEach [] X.env:=by rfl)
  (hpl:(backTo pos (starEach [.Tuple [t,t'] x1 tp] X.env)).any (·.1)=false:=by rfl):
  PE X (.Call (.Name "isinstance" p) [a,.Tuple [t,t'] x1 tp] [] pos) (tE X.K (fB m n f)):=
 (rF An hg hm hv (gw ha (gw (FQ (gw ht (gw ht' lY h4) h3)) lY he2) he) (by decide) (by decide) he hpl).weak fun σ H Q ⟨Z,Θ,env,C,r,env',C',S,hf,q⟩=>by
  unfold fB at hf
  split at hf
  case h_2=>cases hf
  rename_i d e1 C1 h1
  split at hf
  case h_2=>cases hf
  rename_i b b' hb hb'
  cases hf
  refine ⟨Z,Θ,env,C,d,e1,C',S,h1,fun v H1 k f S1 b1=>⟨by show 2≤sizeLine; rw [sizeLine_eq]; decide,fun c hc=>?_⟩⟩
  have kc:cg Θ H1 (upd H1 c (.tup [.ty m,.ty n])):=cg.upd hc
  have s2:=S1.wI (bz.upd (o:=.tup [.ty m,.ty n]) hc)
  have b2:=b1.go S1 kc (Fz.refl _)
  refine ⟨v,c,m,n,X6 d,b,b',rfl,aX,b2.ty (DY hb),G5 hm' hb,G5 hn hb',q _ _ (k.trans kc) (Fz.refl _) ⟨S.go (k.trans kc) s2.cell,rfl⟩⟩
end
def ins {α:Type} (lt:α→α→Bool) (x:α):List α→List α
 | []=>[x]
 | y::r=>if lt y x then y::ins lt x r else x::y::r
def fV {α:Type} (lt:α→α→Bool):List α→List α
 | []=>[]
 | x::r=>ins lt x (fV lt r)
section
variable {α:Type} {lt:α→α→Bool}
theorem xg (x:α):∀l:List α,(ins lt x l).Perm (x::l)
 | []=>List.Perm.refl _
 | y::r=>by
  unfold ins
  split
  ·exact ((xg x r).cons y).trans (List.Perm.swap x y r)
  ·exact List.Perm.refl _
theorem kO:∀l:List α,(fV lt l).Perm l
 | []=>List.Perm.refl _
 | x::r=>(xg x _).trans ((kO r).cons x)
structure xj (lt:α→α→Bool) (P:α→Prop):Prop where
 Gp:∀a b,P a→P b→lt a b=true→lt b a=false
 neg:∀a b c,P a→P b→P c→lt a c=true→lt a b=true∨lt b c=true
 tot:∀a b,P a→P b→lt a b=false→lt b a=false→a=b
theorem Ow {P:α→Prop} (O:xj lt P) {x:α} (hx:P x):∀{l:List α},(∀y∈l,P y)→l.Pairwise (fun a b=>lt b a=false)→(ins lt x l).Pairwise (fun a b=>lt b a=false)
 | [],_,_=>List.pairwise_cons.mpr ⟨fun _ m=>(nomatch m),List.Pairwise.nil⟩
 | y::r,hp,h=>by
  rw [List.pairwise_cons] at h
  have py:=hp y List.mem_cons_self
  unfold ins
  split
  ·rename_i hl
   rw [List.pairwise_cons]
   refine ⟨fun z m=>?_,Ow O hx (fun z m=>hp z (List.mem_cons_of_mem _ m)) h.2⟩
   rcases List.mem_cons.mp ((xg x r).mem_iff.mp m) with rfl | m
   ·exact O.Gp _ _ py hx hl
   ·exact h.1 z m
  ·rename_i hl
   have hl:lt y x=false:=by simpa using hl
   rw [List.pairwise_cons,List.pairwise_cons]
   refine ⟨fun z m=>?_,h.1,h.2⟩
   rcases List.mem_cons.mp m with rfl | m
   ·exact hl
   ·have pz:=hp z (List.mem_cons_of_mem _ m)
    cases hz:lt z x with
    | false=>rfl
    | true=>
     rcases O.neg z y x pz py hx hz with h1 | h1
     ·rw [h.1 z m] at h1; cases h1
     ·rw [hl] at h1; cases h1
theorem Ea {P:α→Prop} (O:xj lt P):∀{l:List α},(∀y∈l,P y)→(fV lt l).Pairwise (fun a b=>lt b a=false)
 | [],_=>List.Pairwise.nil
 | x::r,hp=>Ow O (hp x List.mem_cons_self) (fun y m=>hp y (List.mem_cons_of_mem _ ((kO r).mem_iff.mp m))) (Ea O fun y m=>hp y (List.mem_cons_of_mem _ m))
theorem Ox {P:α→Prop} (O:xj lt P):∀{l m:List α},(∀y∈l,P y)→l.Perm m→l.Pairwise (fun a b=>lt b a=false)→m.Pairwise (fun a b=>lt b a=false)→l=m
 | [],m,_,p,_,_=>(List.nil_perm.mp p).symm
 | x::r,[],_,p,_,_=>absurd p.length_eq (by simp)
 | x::r,y::t,hp,p,h1,h2=>by
  have pm:∀z∈y::t,P z:=fun z m=>hp z (p.mem_iff.mpr m)
  rw [List.pairwise_cons] at h1 h2
  have e:x=y:=by
   have m1:x∈y::t:=p.mem_iff.mp List.mem_cons_self
   have m2:y∈x::r:=p.mem_iff.mpr List.mem_cons_self
   rcases List.mem_cons.mp m1 with e | m1
   ·exact e
   ·rcases List.mem_cons.mp m2 with e | m2
    ·exact e.symm
    ·exact O.tot x y (hp x List.mem_cons_self) (pm y List.mem_cons_self) (h2.1 x m1) (h1.1 y m2)
  subst e
  rw [Ox O (fun z m=>hp z (List.mem_cons_of_mem _ m)) ((List.perm_cons x).mp p) h1.2 h2.2]
theorem vD {P:α→Prop} (O:xj lt P) {l m:List α} (hp:∀y∈l,P y) (p:m.Perm l) (h:m.Pairwise (fun a b=>lt b a=false)):m=fV lt l:=
 Ox O (fun y hy=>hp y (p.mem_iff.mp hy)) (p.trans (kO l).symm) h (Ea O hp)
end
def ltI (i j:Int):Bool:=decide (i < j)
theorem aau:xj ltI (fun _=>True):=⟨fun a b _ _ h=>by unfold ltI at *; simp at *; omega,fun a b c _ _ _ h=>by unfold ltI at *; simp at *; omega,fun a b _ _ h1 h2=>by unfold ltI at *; simp at *; omega⟩
theorem Yw:xj strLt (fun _=>True):=by
 refine ⟨fun a b _ _ h=>?_,fun a b c _ _ _ h=>?_,fun a b _ _ h1 h2=>?_⟩
 ·exact Ao (a:=.inr a) (b:=.inr b) h
 ·exact Ni (a:=.inr a) (b:=.inr b) (c:=.inr c) rfl rfl h
 ·exact Sum.inr.inj (Gr (a:=.inr a) (b:=.inr b) rfl h1 h2)
def Jp (a b:PyData):Bool:=match a,b with
 | .tuple xs,.tuple ys=>match keysOf xs,keysOf ys with
  | some ks,some js=>cL ks js
  | _,_=>false
 | _,_=>false
def Wj (sh:List Bool) (d:PyData):Prop:=∃xs ks,d=.tuple xs∧keysOf xs=some ks∧ks.map gA=sh
theorem xm:∀{xs ys:List PyData} {ks:List Key},keysOf xs=some ks→keysOf ys=some ks→xs=ys
 | [],[],_,_,_=>rfl
 | [],y::ys,ks,h,g=>by
  cases h
  unfold keysOf at g
  split at g <;> cases g
 | x::xs,[],ks,h,g=>by
  cases g
  unfold keysOf at h
  split at h <;> cases h
 | x::xs,y::ys,ks,h,g=>by
  unfold keysOf at h g
  split at h
  ·rename_i k t h1 h2
   cases h
   split at g
   ·rename_i k' t' g1 g2
    cases g
    have:x=y:=by
     cases x <;> first | cases h1 | skip
     all_goals cases y <;> first | cases g1 | skip
     all_goals rfl
    rw [this,xm h2 g2]
   ·cases g
  ·cases h
theorem nR {xs ys:List PyData} {ks js:List Key} (h:keysOf xs=some ks) (g:keysOf ys=some js):Jp (.tuple xs) (.tuple ys)=cL ks js:=by
 unfold Jp
 simp only [h,g]
theorem Yx (sh:List Bool):xj Jp (Wj sh):=by
 refine ⟨fun a b ha hb h=>?_,fun a b c ha hb hc h=>?_,fun a b ha hb h1 h2=>?_⟩
 ·obtain ⟨xs,ks,rfl,e1,t1⟩:=ha
  obtain ⟨ys,js,rfl,e2,t2⟩:=hb
  rw [nR e1 e2] at h
  rw [nR e2 e1]
  exact Aq h
 ·obtain ⟨xs,ks,rfl,e1,t1⟩:=ha
  obtain ⟨ys,js,rfl,e2,t2⟩:=hb
  obtain ⟨zs,ls,rfl,e3,t3⟩:=hc
  rw [nR e1 e3] at h
  rw [nR e1 e2,nR e2 e3]
  exact Gs (t1.trans t2.symm) (t2.trans t3.symm) h
 ·obtain ⟨xs,ks,rfl,e1,t1⟩:=ha
  obtain ⟨ys,js,rfl,e2,t2⟩:=hb
  rw [nR e1 e2] at h1
  rw [nR e2 e1] at h2
  have:=Nj (t1.trans t2.symm) h1 h2
  subst this
  rw [xm e1 e2]
def strsOf:List PyData→Option (List Str)
 | []=>some []
 | .str i::r=>match strsOf r with
  | some t=>some (i::t)
  | none=>none
 | _=>none
theorem sE {E:Hp}:∀{ds:List PyData} {ns:List Str} {vs:List V},strsOf ds=some ns→g8 E ds vs→vs=ns.map V.str
 | [],ns,vs,h,r=>by cases h; exact r
 | .str i::ds,ns,vs,h,r=>by
  unfold strsOf at h
  split at h
  ·rename_i t ht
   cases h
   obtain ⟨u,w,rfl,q,s⟩:=r
   rw [sE ht s]
   have:u=.str i:=q
   rw [this]
   rfl
  ·cases h
 | .none::_,_,_,h,_=>by cases h
 | .bool _::_,_,_,h,_=>by cases h
 | .int _::_,_,_,h,_=>by cases h
 | .list _::_,_,_,h,_=>by cases h
 | .tuple _::_,_,_,h,_=>by cases h
 | .dict _::_,_,_,h,_=>by cases h
def vd:PyData→Option (List Bool)
 | .tuple xs=>(keysOf xs).map fun ks=>ks.map gA
 | _=>none
def xq (ds:List PyData):Option (List PyData):=if ds.length < 64 then match intsOf ds with
  | some ns=>some ((fV ltI ns).map .int)
  | none=>match strsOf ds with
   | some zs=>some ((fV strLt zs).map .str)
   | none=>match ds with
    | []=>some []
    | d::_=>match vd d with
     | some (b::sh)=>if (ds.all fun e=>decide (vd e=some (b::sh))) then some (fV Jp ds) else none
     | _=>none
 else none
def kW:List PyData→Option Vl
 | [.list ds]=>(xq ds).map fun l=>.ow (.list l)
 | _=>none
def G6 (K:PySem.W.Frag):List V→Hp→VK→Prop:=fun xs H Q=>((∃(p:Addr) (ns:List Int),xs=[.ref p]∧dW K H p (ns.map V.int)∧ns.length < 64∧∀(l:Addr) (ns':List Int),H l=none→ns'.Perm ns→ns'.Pairwise (·≤·)→Q (.ref l) (upd H l (.lst (ns'.map V.int))))∨
 ∃(p:Addr) (ns:List Str),xs=[.ref p]∧dW K H p (ns.map V.str)∧ns.length < 64∧∀(l:Addr) (ns':List Str),H l=none→ns'.Perm ns→sortedS ns'=true→Q (.ref l) (upd H l (.lst (ns'.map V.str))))∨
 ∃(p:Addr) (rows:List Row) (b:Bool) (sh:List Bool),xs=[.ref p]∧dW K H p (rows.map fun r=>V.ref r.1)∧rows.length < 64∧(∀r∈rows,H r.1=some (.tup (r.2.map kV))∧r.2.map gA=b::sh)∧∀(l:Addr) (rows':List Row),H l=none→rows'.Perm rows→(rows'.map (·.2)).Pairwise (fun a b=>cL b a=false)→Q (.ref l) (upd H l (.lst (rows'.map fun r=>V.ref r.1)))
theorem G7 {X:Cx}:dF X (.builtin "sorted") (G6 X.K):=(tW.or tX).or rQ
theorem sortI {ns ns':List Int} (p:ns'.Perm ns) (h:ns'.Pairwise (·≤·)):ns'=fV ltI ns:=vD aau (fun _ _=>trivial) p (h.imp fun {a b} hab=>by unfold ltI; simp; exact hab)
theorem Oz:∀{x:Str} {r:List Str},risingS x r=true→(x::r).Pairwise (fun a b=>strLt b a=false)
 | x,[],_=>List.pairwise_cons.mpr ⟨fun _ m=>(nomatch m),List.Pairwise.nil⟩
 | x,y::r,h=>by
  unfold risingS at h
  rw [Bool.and_eq_true,Bool.not_eq_true'] at h
  have ih:=Oz h.2
  have hxy:strLt y x=false:=by
   have:=h.1
   unfold strLt
   rw [lt_meets]
   exact this
  rw [List.pairwise_cons]
  refine ⟨fun z m=>?_,ih⟩
  rcases List.mem_cons.mp m with rfl | m
  ·exact hxy
  ·rw [List.pairwise_cons] at ih
   cases hz:strLt z x with
   | false=>rfl
   | true=>
    rcases Yw.neg z y x trivial trivial trivial hz with h1 | h1
    ·rw [ih.1 z m] at h1; cases h1
    ·rw [hxy] at h1; cases h1
theorem OD {ns ns':List Str} (p:ns'.Perm ns) (h:sortedS ns'=true):ns'=fV strLt ns:=vD Yw (fun _ _=>trivial) p (by
 cases ns' with
 | nil=>exact List.Pairwise.nil
 | cons x r=>exact Oz h)
def K3:Key→PyData
 | .inl i=>.int i
 | .inr x=>.str x
theorem xu:∀{xs:List PyData} {ks:List Key},keysOf xs=some ks→xs=ks.map K3
 | [],ks,h=>by cases h; rfl
 | x::xs,ks,h=>by
  unfold keysOf at h
  split at h
  ·rename_i k t h1 h2
   cases h
   rw [xu h2]
   have:x=K3 k:=by
    cases x <;> first | (cases h1; rfl) | cases h1
   rw [this]
   rfl
  ·cases h
theorem kY:∀ks:List Key,keysOf (ks.map K3)=some ks
 | []=>rfl
 | k::ks=>by
  show (match fP (K3 k),keysOf (ks.map K3) with | some k,some t=>some (k::t) | _,_=>none)=_
  rw [kY ks]
  cases k <;> rfl
theorem Eb {E:Hp} {sh:List Bool}:∀{ds:List PyData} {vs:List V},(∀d∈ds,vd d=some sh)→g8 E ds vs→∃rows:List Row,vs=rows.map (fun r=>V.ref r.1)∧ds=rows.map (fun r=>.tuple (r.2.map K3))∧∀r∈rows,E r.1=some (.tup (r.2.map kV))∧r.2.map gA=sh
 | [],vs,_,r=>⟨[],r,rfl,fun _ m=>(nomatch m)⟩
 | d::ds,vs,h,r=>by
  obtain ⟨u,w,rfl,q,s⟩:=r
  obtain ⟨rows,e1,e2,e3⟩:=Eb (fun d m=>h d (List.mem_cons_of_mem _ m)) s
  have hd:=h d List.mem_cons_self
  cases d <;> first | cases hd | skip
  rename_i xs
  have hd:(keysOf xs).map (fun ks=>ks.map gA)=some sh:=hd
  cases hk:keysOf xs with
  | none=>rw [hk] at hd; cases hd
  | some ks=>
   rw [hk] at hd
   obtain ⟨a,vs',rfl,ha,rr⟩:=q
   rw [jX hk rr] at ha
   refine ⟨(a,ks)::rows,by rw [e1]; rfl,by rw [e2,xu hk]; rfl,fun r m=>?_⟩
   rcases List.mem_cons.mp m with rfl | m
   ·exact ⟨ha,Option.some.inj hd⟩
   ·exact e3 r m
theorem xx {E:Hp}:∀{rows:List Row},(∀r∈rows,E r.1=some (.tup (r.2.map kV)))→g8 E (rows.map fun r=>.tuple (r.2.map K3)) (rows.map fun r=>V.ref r.1)
 | [],_=>rfl
 | r::rows,h=>by
  refine ⟨_,_,rfl,⟨r.1,r.2.map kV,rfl,h r List.mem_cons_self,?_⟩,xx fun r m=>h r (List.mem_cons_of_mem _ m)⟩
  generalize r.2=ks
  induction ks with
  | nil=>rfl
  | cons k ks ih=>exact ⟨_,_,rfl,by cases k <;> rfl,ih⟩
theorem xF:∀{ds:List PyData} {ns:List Int},intsOf ds=some ns→ds=ns.map .int
 | [],ns,h=>by cases h; rfl
 | .int i::ds,ns,h=>by
  unfold intsOf at h
  split at h
  ·rename_i t ht; cases h; rw [xF ht]; rfl
  ·cases h
 | .none::_,_,h=>by cases h
 | .bool _::_,_,h=>by cases h
 | .str _::_,_,h=>by cases h
 | .list _::_,_,h=>by cases h
 | .tuple _::_,_,h=>by cases h
 | .dict _::_,_,h=>by cases h
theorem xG:∀{ds:List PyData} {ns:List Str},strsOf ds=some ns→ds=ns.map .str
 | [],ns,h=>by cases h; rfl
 | .str i::ds,ns,h=>by
  unfold strsOf at h
  split at h
  ·rename_i t ht; cases h; rw [xG ht]; rfl
  ·cases h
 | .none::_,_,h=>by cases h
 | .bool _::_,_,h=>by cases h
 | .int _::_,_,h=>by cases h
 | .list _::_,_,h=>by cases h
 | .tuple _::_,_,h=>by cases h
 | .dict _::_,_,h=>by cases h
theorem K4 {K:PySem.W.Frag}:zq K (G6 K) kW:=by
 intro Z Θ env C σ H xs ds0 res S b e Q q
 unfold kW at e
 split at e
 case h_2=>cases e
 rename_i ds
 cases hs:xq ds with
 | none=>rw [hs] at e; cases e
 | some l=>
  rw [hs] at e
  cases e
  obtain ⟨v,rfl,bb⟩:=kI b
  obtain ⟨a,vs,rfl,ha,r⟩:=bb.lst
  unfold xq at hs
  split at hs
  case isFalse=>cases hs
  rename_i hl
  split at hs
  ·rename_i ns hns
   cases hs
   have ev:=mW hns r
   subst ev
   refine .inl (.inl ⟨a,ns,rfl,dW.of ha,by rw [xF hns,List.length_map] at hl; exact hl,fun l ns' hn p hp=>?_⟩)
   rw [sortI p hp]
   exact q _ _ (cg.upd hn) (gb S (Ds _) hn)
  ·split at hs
   ·rename_i ns hns
    cases hs
    have ev:=sE hns r
    subst ev
    refine .inl (.inr ⟨a,ns,rfl,dW.of ha,by rw [xG hns,List.length_map] at hl; exact hl,fun l ns' hn p hp=>?_⟩)
    rw [OD p hp]
    exact q _ _ (cg.upd hn) (gb S (Dt _) hn)
   ·split at hs
    ·cases hs
     cases (show vs=[] from r)
     exact .inl (.inl ⟨a,[],rfl,dW.of ha,by decide,fun l ns' hn p hp=>by
      rw [List.perm_nil.mp p]
      exact q _ _ (cg.upd hn) (gb S rfl hn)⟩)
    ·rename_i d0 dr hi1 hi2
     split at hs
     case h_2=>cases hs
     rename_i b0 sh hsh
     split at hs
     case isFalse=>cases hs
     rename_i hall
     cases hs
     have hall':∀d∈d0::dr,vd d=some (b0::sh):=fun d m=>of_decide_eq_true (List.all_eq_true.mp hall d m)
     obtain ⟨rows,e1,e2,e3⟩:=Eb hall' r
     subst e1
     refine .inr ⟨a,rows,b0,sh,rfl,dW.of ha,?_,fun r m=>⟨cj (e3 r m).1,(e3 r m).2⟩,fun l rows' hn p hp=>?_⟩
     ·have:=congrArg List.length e2
      rw [List.length_map] at this
      rw [←this]
      exact hl
     ·have hrow:∀d∈d0::dr,Wj (b0::sh) d:=fun d m=>by
       rw [e2] at m
       obtain ⟨r,mr,rfl⟩:=List.mem_map.mp m
       exact ⟨_,r.2,rfl,kY _,(e3 r mr).2⟩
      have pd:(rows'.map fun r=>PyData.tuple (r.2.map K3)).Perm (d0::dr):=by rw [e2]; exact p.map _
      have up:(rows'.map fun r=>PyData.tuple (r.2.map K3)).Pairwise (fun a b=>Jp b a=false):=by
       rw [List.pairwise_map]
       rw [List.pairwise_map] at hp
       exact hp.imp fun {a b} hab=>by rw [nR (kY _) (kY _)]; exact hab
      have es:=vD (Yx (b0::sh)) hrow pd up
      rw [←es] at q
      exact q _ _ (cg.upd hn) (gb S (xx fun r m=>(e3 r (p.mem_iff.mp m)).1) hn)
def vG (ds:List PyData):Option (List PyData):=if ds.length < 64 then match intsOf ds with
  | some ns=>some ((fV ltI (dedup ns)).map .int)
  | none=>none
 else none
def sG (ds:List PyData):Option (List PyData):=if ds.length < 64 then match strsOf ds with
  | some ns=>some ((fV strLt (dedup ns)).map .str)
  | none=>none
 else none
def Ec (f:FB):FE:=fun env C=>match f env C with
 | some (.list ds,_,C1)=>match vG ds with
  | some l=>some (.ow (.list l),env,C1)
  | none=>none
 | _=>none
def Ed (f:FB):FE:=fun env C=>match f env C with
 | some (.list ds,_,C1)=>match sG ds with
  | some l=>some (.ow (.list l),env,C1)
  | none=>none
 | _=>none
section
variable {X:Cx} {l:Expr} {f:FB} {p1 p2 pos1 pos2:Pos}
theorem RL (hc:X.calm=true) (hl:PE X l (nG X.K f)) (g1:Gl X "sorted") (m1:X.mg "sorted"=none) (g2:Gl X "set") (m2:X.mg "set"=none)
  (he:starEach [.Call (.Name "set" p2) [l] [] pos2] X.env=(false,eval (.Call (.Name "set" p2) [l] [] pos2) X.env)::starEach [] X.env:=by rfl) (hpl:(backTo pos1 (starEach [] X.env)).any (·.1)=false:=by rfl)
  (he2:starEach [l] X.env=(false,eval l X.env)::starEach [] X.env:=by rfl) (GD:(backTo pos2 (starEach [] X.env)).any (·.1)=false:=by rfl):
  PE X (.Call (.Name "sorted" p1) [.Call (.Name "set" p2) [l] [] pos2] [] pos1) (tE X.K (Ec f)):=(Dl hc hl g1 m1 g2 m2 he hpl he2 GD).weak fun σ H Q ⟨Z,Θ,env,C,r,env',C',S,hf,q⟩=>by
 unfold Ec at hf
 split at hf
 case h_2=>cases hf
 rename_i ds e1 C1 h1
 split at hf
 case h_2=>cases hf
 rename_i l' hs
 cases hf
 refine ⟨Z,Θ,env,C,_,e1,C',S,h1,fun v H1 k f S1 b1=>?_⟩
 unfold vG at hs
 split at hs
 case isFalse=>cases hs
 rename_i hl
 split at hs
 case h_2=>cases hs
 rename_i ns hns
 cases hs
 obtain ⟨a,vs,rfl,ha,r⟩:=b1.lst
 have ev:=mW hns r
 subst ev
 have S2:=S.go k S1.cell
 refine ⟨a,ns,rfl,dW.of ha,by rw [xF hns,List.length_map] at hl; exact hl,fun D ns' hn p hp=>?_⟩
 rw [sortI p hp]
 exact q _ _ (k.trans (cg.upd hn)) (Fz.refl _) ((gb S2 (Ds _) hn).from k)
theorem RM (hc:X.calm=true) (hl:PE X l (nG X.K f)) (g1:Gl X "sorted") (m1:X.mg "sorted"=none) (g2:Gl X "set") (m2:X.mg "set"=none)
  (he:starEach [.Call (.Name "set" p2) [l] [] pos2] X.env=(false,eval (.Call (.Name "set" p2) [l] [] pos2) X.env)::starEach [] X.env:=by rfl) (hpl:(backTo pos1 (starEach [] X.env)).any (·.1)=false:=by rfl)
  (he2:starEach [l] X.env=(false,eval l X.env)::starEach [] X.env:=by rfl) (GD:(backTo pos2 (starEach [] X.env)).any (·.1)=false:=by rfl):
  PE X (.Call (.Name "sorted" p1) [.Call (.Name "set" p2) [l] [] pos2] [] pos1) (tE X.K (Ed f)):=(Dm hc hl g1 m1 g2 m2 he hpl he2 GD).weak fun σ H Q ⟨Z,Θ,env,C,r,env',C',S,hf,q⟩=>by
 unfold Ed at hf
 split at hf
 case h_2=>cases hf
 rename_i ds e1 C1 h1
 split at hf
 case h_2=>cases hf
 rename_i l' hs
 cases hf
 refine ⟨Z,Θ,env,C,_,e1,C',S,h1,fun v H1 k f S1 b1=>?_⟩
 unfold sG at hs
 split at hs
 case isFalse=>cases hs
 rename_i hl
 split at hs
 case h_2=>cases hs
 rename_i ns hns
 cases hs
 obtain ⟨a,vs,rfl,ha,r⟩:=b1.lst
 have ev:=sE hns r
 subst ev
 have S2:=S.go k S1.cell
 refine ⟨a,ns,rfl,dW.of ha,by rw [xG hns,List.length_map] at hl; exact hl,fun D ns' hn p hp=>?_⟩
 rw [OD p hp]
 exact q _ _ (k.trans (cg.upd hn)) (Fz.refl _) ((gb S2 (Dt _) hn).from k)
end
def Ef (f g:FB):FE:=fun env C=>match f env C with
 | some (.list ds,e1,C1)=>match g e1 C1 with
  | some (.int k,_,C2)=>match intsOf ds with
   | some ns=>some (.im (.int (maxD k ns)),env,C2)
   | none=>none
  | _=>none
 | _=>none
theorem RN {X:Cx} {l de:Expr} {f g:FB} {p pos kp:Pos} (hc:X.calm=true) (hl:PE X l (nG X.K f)) (hd:PE X de (nG X.K g)) (hg:Gl X "max") (hm:X.mg "max"=none) (he:starEach [l] X.env=(false,eval l X.env)::starEach [] X.env:=by rfl):
  PE X (.Call (.Name "max" p) [l] [⟨some "default",de,kp⟩] pos) (tE X.K (Ef f g)):=(Rj hc hl hd hg hm he).weak fun σ H Q ⟨Z,Θ,env,C,r,env',C',S,hf,q⟩=>by
 unfold Ef at hf
 split at hf
 case h_2=>cases hf
 rename_i ds e1 C1 h1
 split at hf
 case h_2=>cases hf
 rename_i k e2 C2 h2
 split at hf
 case h_2=>cases hf
 rename_i ns hns
 cases hf
 refine ⟨Z,Θ,env,C,_,e1,C1,S,h1,fun v H1 k1 f1 S1 b1=>⟨Z,Θ,e1,C1,_,e2,C',S1,h2,fun w H2 k2 f2 S2 b2=>?_⟩⟩
 obtain ⟨a,vs,rfl,ha,r⟩:=(b1.go S1 k2 f2).lst
 rw [mW hns r] at ha
 exact ⟨a,ns,k,rfl,b2,dW.of ha,q _ H2 (k1.trans k2) (Fz.refl _) ⟨S.go (k1.trans k2) S2.cell,rfl⟩⟩
end L2
set_option maxHeartbeats 4000000
namespace L2
open PySem PySem.Spec PyProof.Rows PySem.W
theorem RP {X:Cx} {pins:List (Addr×Obj)} {σ:St} {H:Hp} {s:Shared} {a:Addr} {y d:V} {u r:Value} {o:Option V} {A:Around} {E:Value→Shared→Prop} {Q:Value→Shared→Prop} (hu:A.units + 1 < cLine) (I:Inv X pins σ H s) (g:IW H a y o) (ry:RelV y u) (rd:RelV d r) (h:∀w' s',Inv X pins σ H s'→RelV (o.getD d) w'→Q w' s'):
  wpAny (model X.prog X.w) A (call (.builtin "dict.get") [.ref a,u,r]) Q E s:=by
 rcases g with g | ⟨ha,⟨b,ks,rfl,hb⟩,rfl⟩
 ·exact Mv hu I g ry rd h
 ·exact Mv hu (I.Ym ha) (IW.re ha hb) ry rd fun w' s' I'=>h w' s' (I'.Ze ha)
def Yy (td ty tx:TE):TE:=fun σ H Q=>td σ H fun x H1=>∃a,x=.ref a∧IsD H1 a∧ty σ H1 fun y H2=>tx σ H2 fun z H3=>∃o,IW H3 a y o∧Q (o.getD z) H3
theorem RQ {X:Cx} {o e f:Expr} {apos cpos:Pos} {td ty tx:TE} (hu:X.A.units + 1 < cLine) (ho:PE X o td) (he:PE X e ty) (hf:PE X f tx) (m:M2 X o "get" apos e f cpos):PE X (.Call (.Attribute o "get" apos) [e,f] [] cpos) (Yy td ty tx):=by
 intro pins s σ H Q I h
 refine wpAny_Call_method m.base m.few m.line PySem.F.plainAttrs_dict PySem.F.slot_dict_get PySem.F.type_dict_get (eZ (ho pins s σ H _ I h) fun u s1 ⟨x,H1,I1,rx,a,ex,d,q1⟩=>?_)
 subst ex
 obtain rfl:u=Value.ref a:=rx
 obtain ⟨t1,t2,_⟩:=Vv I1 d
 refine ⟨t1,t2,?_⟩
 rw [m.trees]
 refine Calls.callWith_builtin rfl (Calls.evalArgs_plain (Calls.spliced_cons (eZ (he pins s1 σ H1 _ I1 q1) fun iv s2 ⟨y,H2,I2,ry,q2⟩=>
  Calls.spliced_cons (eZ (hf pins s2 σ H2 _ I2 q2) fun fv s3 ⟨z,H3,I3,rz,ov,g,q3⟩=>Calls.spliced_nil ?_))))
 exact RP hu I3 g ry rz fun w' s4 I4 rw'=>⟨_,H3,I4,rw',q3⟩
def Bm (fd fk:FB) (fx:FE):FE:=fun env C=>match fd env C with
 | some (.dict kvs,e1,C1)=>match fk e1 C1 with
  | some (dk,e2,C2)=>match fx e2 C2 with
   | some (r,e3,C3)=>match lH kvs dk with
    | some (some d)=>some (.im d,rst (.im d) env e3,C3)
    | some none=>some (still r,rst (still r) env e3,C3)
    | none=>none
   | none=>none
  | none=>none
 | _=>none
theorem OJ {X:Cx} {o e f:Expr} {apos cpos:Pos} {fd fk:FB} {fx:FE} (hu:X.A.units + 1 < cLine) (ho:PE X o (nG X.K fd)) (he:PE X e (nG X.K fk)) (hf:PE X f (tE X.K fx)) (m:M2 X o "get" apos e f cpos):PE X (.Call (.Attribute o "get" apos) [e,f] [] cpos) (tE X.K (Bm fd fk fx)):=(RQ hu ho he hf m).weak fun σ H Q ⟨Z,Θ,env,C,r,env',C',S,hf,q⟩=>by
 unfold Bm at hf
 split at hf
 case h_2=>cases hf
 rename_i kvs e1 C1 h1
 split at hf
 case h_2=>cases hf
 rename_i dk e2 C2 h2
 split at hf
 case h_2=>cases hf
 rename_i r0 e3 C3 h3
 refine ⟨Z,Θ,env,C,_,e1,C1,S,h1,fun v H1 k1 f1 S1 b1=>?_⟩
 obtain ⟨a,vs,rfl,da,rr⟩:=b1.dct
 refine ⟨a,rfl,?_,Z,Θ,e1,C1,dk,e2,C2,S1,h2,fun w H2 k2 f2 S2 b2=>⟨Z,Θ,e2,C2,r0,e3,C3,S2,h3,fun z H3 k3 f3 R3=>?_⟩⟩
 ·rcases da with ⟨ks,_,h⟩ | ⟨ks,_,h⟩
  ·exact .inl ⟨_,.inl h⟩
  ·exact .inr ⟨_,.inl h⟩
 have b1':=(b1.go S1 k2 f2).go S2 k3 f3
 have b2':=b2.go S2 k3 f3
 obtain ⟨S3,a3⟩:=R3.arg
 have kk:=(k1.trans k2).trans k3
 have ff:=(f1.trans f2).trans f3
 split at hf
 ·rename_i d hl
  cases hf
  obtain ⟨a',o',e',g,hq⟩:=b1'.get b2' hl
  cases e'
  rcases hq with ⟨v',rfl,d',e1',r1,_⟩ | ⟨_,e1'⟩
  ·cases e1'
   exact ⟨some v',g,q v' H3 kk (ff.rst _) (Res.rst S kk ⟨S3,r1⟩)⟩
  ·cases e1'
 ·rename_i hl
  cases hf
  obtain ⟨a',o',e',g,hq⟩:=b1'.get b2' hl
  cases e'
  rcases hq with ⟨v',rfl,d',e1',_⟩ | ⟨rfl,_⟩
  ·cases e1'
  ·exact ⟨none,g,q z H3 kk (ff.rst _) (((R3.still).from (k1.trans k2)).rst S kk)⟩
 ·cases hf
def G8:PyData→PyData→Option Vl
 | .str z,.list ds=>match strsOf ds with
  | some ys=>if (ys.map (·.length)).sum + ys.length * z.length≤jA then some (.im (.str (Txt.join z ys))) else none
  | none=>none
 | _,_=>none
def d7 (f g:FB):FE:=aC G8 f g
theorem RT {X:Cx} {o e:Expr} {f g:FB} {apos cpos:Pos} (ho:PE X o (nG X.K f)) (he:PE X e (nG X.K g))
  (hbase:attributeBase o "join" X.env (eval o X.env)=eval o X.env:=by rfl)
  (hfew:((backTo cpos (starEach [e] X.env)).all (fun x=>!x.1)&&(backToKw cpos (keywordEach [] X.env)).all (fun x=>x.1.isSome)
   &&decide (([e]:List Expr).length + ([]:List Keyword).length + (if ([]:List Keyword).isEmpty then 0 else 1) < 30))=true:=by rfl)
  (hline:(apos.endLine==cpos.line)=true:=by rfl) (hs:starEach [e] X.env=(false,eval e X.env)::starEach [] X.env:=by rfl) (hplain:(backTo cpos (starEach [] X.env)).any (·.1)=false:=by rfl):
  PE X (.Call (.Attribute o "join" apos) [e] [] cpos) (tE X.K (d7 f g)):=
 (Tv PySem.F.plainAttrs_str PySem.F.slot_str_join PySem.F.type_str_join (WR.r Q5) ho (gw he lY hs) hbase hfew hline hs hplain).weak fun σ H Q ⟨Z,Θ,env,C,r,env',C',S,hf,q⟩=>by
  unfold d7 aC at hf
  split at hf
  case h_2=>cases hf
  rename_i x e1 C1 h1
  split at hf
  case h_2=>cases hf
  rename_i y e2 C2 h2
  split at hf
  case h_2=>cases hf
  rename_i r0 h3
  cases hf
  refine ⟨Z,Θ,env,C,x,e1,C1,S,h1,fun v H1 k1 f1 S1 b1=>?_⟩
  unfold G8 at h3
  split at h3
  case h_2=>cases h3
  rename_i z ds
  split at h3
  case h_2=>cases h3
  rename_i ys hys
  split at h3
  case isFalse=>cases h3
  rename_i hl
  cases h3
  cases b1.str
  refine ⟨rfl,Z,Θ,e1,C1,_,e2,C',S1,h2,fun w H2 k2 f2 S2 b2=>?_⟩
  obtain ⟨a,vs,rfl,ha,rr⟩:=b2.lst
  rw [sE hys rr] at ha
  have kk:=k1.trans k2
  refine ⟨z,a,ys,rfl,rfl,dW.of ha,by unfold jA at hl; omega,?_⟩
  exact q _ H2 kk ((f1.trans f2).rst _) (Res.rst S kk ⟨S2,rfl⟩)
abbrev FO:=En→Ce→Option (Option Int×Ce)
def Zi (K:PySem.W.Frag) (f:FO):TO:=fun σ H Q=>∃Z Θ env C o C',Sm K Z Θ env C σ H∧f env C=some (o,C')∧∀H',cg Θ H H'→Sm K Z Θ env C' σ H'→Q o H'
def lM:FO:=fun _ C=>some (none,C)
def lG (f:FB):FO:=fun env C=>match f env C with
 | some (.int i,_,C1)=>some (some i,C1)
 | _=>none
def jD {α:Type} (xs:List α) (lo hi:Option Int):List α:=(xs.drop (HT.gG xs.length 0 lo)).take (HT.gG xs.length xs.length hi - HT.gG xs.length 0 lo)
def Wk (lo hi:Option Int):PyData→Option Vl
 | .str z=>if z.length≤jA then some (.im (.str (Txt.slice z lo hi))) else none
 | .list ds=>some (.ow (.list (jD ds lo hi)))
 | .tuple ds=>some (.im (.tuple (jD ds lo hi)))
 | _=>none
def lN (f:FB) (lo hi:FO):FE:=fun env C=>match f env C with
 | some (d,e1,C1)=>match lo e1 C1 with
  | some (l,C2)=>match hi e1 C2 with
   | some (h,C3)=>match Wk l h d with
    | some r=>some (r,rst r env e1,C3)
    | none=>none
   | none=>none
  | none=>none
 | none=>none
theorem Bo {E:Hp} {ds:List PyData} {vs:List V} {lo hi:Option Int} (r:g8 E ds vs):g8 E (jD ds lo hi) (vW vs lo hi):=by
 unfold jD vW
 rw [cG r]
 exact Dq _ (Dr _ r)
section
variable {X:Cx} {e:Expr} {lo hi:Option Expr} {pos p2:Pos}
theorem PO.weak {o:Option Expr} {t t':TO} (h:PO X o t) (w:∀σ H Q,t' σ H Q→t σ H Q):PO X o t':=fun pins s σ H Q I q=>h pins s σ H Q I (w σ H Q q)
theorem Eg:PO X none (Zi X.K lM):=QM.weak fun σ H Q ⟨Z,Θ,env,C,o,C',S,hf,q⟩=>by
 cases hf
 exact q H (cg.refl _ _) S
theorem Eh {f:FB} (h:PE X e (nG X.K f)):PO X (some e) (Zi X.K (lG f)):=(QS h).weak fun σ H Q ⟨Z,Θ,env,C,o,C',S,hf,q⟩=>by
 unfold lG at hf
 split at hf
 ·rename_i i e1 C1 h1
  cases hf
  exact ⟨Z,Θ,env,C,_,e1,C',S,h1,fun v H1 k f S1 b1=>⟨i,b1,q H1 k (S.go k S1.cell)⟩⟩
 ·cases hf
theorem Ei {f:FB} {flo fhi:FO} (he:PE X e (nG X.K f)) (hl:PO X lo (Zi X.K flo)) (hh:PO X hi (Zi X.K fhi)):PE X (.Subscript e (.Slice lo hi none p2) pos) (tE X.K (lN f flo fhi)):=(Mq ((Vz.or QW).or Rc) he hl hh).weak fun σ H Q ⟨Z,Θ,env,C,r,env',C',S,hf,q⟩=>by
 unfold lN at hf
 split at hf
 case h_2=>cases hf
 rename_i d e1 C1 h1
 split at hf
 case h_2=>cases hf
 rename_i l C2 h2
 split at hf
 case h_2=>cases hf
 rename_i h C3 h3
 split at hf
 case h_2=>cases hf
 rename_i r0 h4
 cases hf
 refine ⟨Z,Θ,env,C,d,e1,C1,S,h1,fun v H1 k1 f1 S1 b1=>⟨Z,Θ,e1,C1,l,C2,S1,h2,fun H2 k2 S2=>⟨Z,Θ,e1,C2,h,C',S2,h3,fun H3 k3 S3=>?_⟩⟩⟩
 have kk:=(k1.trans k2).trans k3
 have b3:=b1.go S1 (k2.trans k3) (Fz.refl _)
 have fin:∀{w:V} {H4:Hp},cg Θ H3 H4→Res X.K Z Θ e1 C' σ H3 H4 r w→Q w H4:=fun {w H4} k4 R=>q w H4 (kk.trans k4) (f1.rst _) ((R.from kk).rst S (kk.trans k4))
 cases d <;> first | cases h4 | skip
 ·rename_i z
  simp only [Wk] at h4
  split at h4
  ·rename_i hz
   cases h4
   cases b3.str
   exact .inl (.inl ⟨z,rfl,gk hz,fin (cg.refl _ _) (bL S3 rfl rfl)⟩)
  ·cases h4
 ·obtain ⟨a,vs,rfl,ha,rr⟩:=b3.lst
  exact .inl (.inr ⟨a,vs,rfl,dW.of ha,fun p hp=>fin (cg.upd hp) (gb S3 (Bo rr) hp)⟩)
 ·rename_i ds
  have b3':=b3
  obtain ⟨a,vs,rfl,ha,rr⟩:=b3.tup
  refine .inr ⟨a,vs,rfl,jz.of ha,fun ec=>?_,fun p hp=>fin (cg.upd hp) (vz S3 (Bo rr) hp)⟩
  have rc:=Bo (lo:=l) (hi:=h) rr
  rw [ec] at rc
  refine fin (cg.refl _ _) ⟨S3,a,vs,rfl,wM S3 ha,rc⟩
end
def uM (T:rA) (ft:FT) (fk fv:FE) (fs:En):List PyData→List (PyData×PyData)→Ce→Option (List (PyData×PyData)×Ce)
 | [],acc,C=>some (acc,C)
 | d::r,acc,C=>match Ue T d with
  | some ts=>match ft (qp ts++fs) C with
   | some (false,C1)=>uM T ft fk fv fs r acc C1
   | some (true,C1)=>match fk (qp ts++fs) C1 with
    | some (.im k,_,C2)=>match fv (qp ts++fs) C2 with
     | some (x,_,C3)=>match still x,fP k with
      | .im y,some kk=>if acc.length < jA then uM T ft fk fv fs r (nP fP kk k y acc) C3 else none
      | _,_=>none
     | none=>none
    | _=>none
   | none=>none
  | none=>none
def G9:List (PyData×PyData)→Bool
 | []=>true
 | p::r=>jW p.2&&G9 r
def W0 (fi:FI) (T:rA) (ft:FT) (fk fv:FE) (js:List Nat):FE:=fun env C=>match fi env C with
 | some (its,e1,C1)=>match uM T ft fk fv (frB js e1) its [] C1 with
  | some (kvs,C2)=>some (.ow (.dict kvs),if G9 kvs then e1 else rC js e1,C2)
  | none=>none
 | none=>none
theorem rB.jW {H H':Hp} (t:∀a vs,H a=some (.tup vs)→H' a=some (.tup vs)):∀{ds:List (PyData×PyData)} {vs:List V},G9 ds=true→rB H ds vs→rB H' ds vs
 | [],_,_,h=>h
 | (k,d)::ds,vs,n,h=>by
  obtain ⟨v,r,e,q,w⟩:=h
  have n':L2.jW d=true∧G9 ds=true:=by rw [G9,Bool.and_eq_true] at n; exact n
  exact ⟨v,r,e,RZ.jW t n'.1 q,rB.jW t n'.2 w⟩
theorem RV {K:PySem.W.Frag} {fi:FI} {T:rA} {ft:FT} {fk fv:FE} {js:List Nat}:∀σ H Q,tE K (W0 fi T ft fk fv js) σ H Q→tDC K (tI K true fi) T (fun _=>pY K ft) (fun _=>tE K fk) (fun _=>tE K fv) js σ H Q:=by
 rintro σ H Q ⟨Z,Θ,env,C,res,env',C',S,hf,q⟩
 unfold W0 at hf
 split at hf
 case h_2=>cases hf
 rename_i its e1 C1 h1
 split at hf
 case h_2=>cases hf
 rename_i kvs C2 h2
 cases hf
 refine ⟨Z,Θ,env,C,its,e1,C1,S,h1,fun J H1 k1 f1 S1 it D hD b=>?_⟩
 have Wc:=S1.fz (uo js e1)
 have it':DX (aV Z Θ e1 σ) Θ H1 J its:=it
 let PB:=aV (qt D Z (rC js e1) σ) Θ [] []
 have Jl:∀a,a∈PB ↔ a=D∨a∈aV Z Θ (rC js e1) σ:=fun a=>jt (js:=js) rfl
 have dPB:D∈PB:=(Jl D).mpr (.inl rfl)
 refine ⟨fun i m H2=>m=its.length - i∧i≤its.length∧∃acc ks jf C2,cg Θ H1 H2∧jj Θ C2 H2∧cV fP acc=some ks∧H2 D=some (.dK (ks.zip jf))∧rB (er PB H2) acc jf∧uM T ft fk fv (frB js e1) (its.drop i) acc C2=some (kvs,C'),
  ⟨its.length,rfl,Nat.zero_le _,[],[],[],C1,cg.upd hD,⟨S1.cell.len,fun n b ns e2 e3=>?_⟩,rfl,aX,rfl,h2⟩,?_⟩
 ·have:=S1.cell.at_ n b ns e2 e3
  rw [aY (cu this hD)]
  exact this
 rintro i m H2 ⟨rfl,hi,acc,ks,jf,Ci,ki,ci,hks,hDi,ri,hc⟩
 have smP:bz (er (aV Z Θ e1 σ) H1) (er PB H2):=iM ki S1.KJ fun b m=>by
  rcases (Jl b).mp m with rfl | m
  ·exact .inr hD
  ·exact .inl ((uo js e1).sub b m)
 have SB0:Sm K (qt D Z (rC js e1) σ) Θ (qp []++frB js e1) Ci (([]:List V).map some++frees js σ) H2:=Wc.blk hD ki ⟨_,hDi,fun _ z=>nomatch z⟩ ci (show g8 _ [] [] from rfl)
 have Wd:∀a∈PB,H2 a≠none:=fun a m=>by
  have:=SB0.Du a ((jt (js:=js) (pJ (env:=qp []++frB js e1) uq)).mpr ((Jl a).mp m))
  exact this
 obtain ⟨Yu,Yv⟩:=it' i H2 PB smP (GF ki) Wd
 cases hd:its[i]? with
 | none=>
  have hi2:i=its.length:=by
   have:=List.getElem?_eq_none_iff.mp hd
   omega
  rw [hi2,List.drop_length] at hc
  cases hc
  refine .inl ⟨Yv hi2,q _ H2 (k1.trans ki) ?_ ?_⟩
  ·split
   ·exact f1
   ·exact f1.trans (uo js e1)
  ·refine ⟨D,rfl,k1.none hD,?_⟩
   split
   ·rename_i hn
    have SD:=S1.DP hD ki ⟨_,hDi,fun _ z=>nomatch z⟩ ci
    exact ⟨SD,jf,.inl ⟨ks,hks,hDi⟩,ri.jW (fun a vs e=>wM SD (cj e)) hn⟩
   ·have SD:=Wc.DP hD ki ⟨_,hDi,fun _ z=>nomatch z⟩ ci
    refine ⟨SD,jf,.inl ⟨ks,hks,hDi⟩,?_⟩
    have:er PB H2=er (aV (D::Z) Θ (rC js e1) σ) H2:=jM fun a=>by
     rw [Jl]
     show _ ↔ a∈D::aV Z Θ (rC js e1) σ
     rw [List.mem_cons]
    rw [←this]
    exact ri
 | some d=>
  have hlt:i < its.length:=(List.getElem?_eq_some_iff.mp hd).1
  have ed:its.drop i=d::its.drop (i + 1):=by
   rw [List.drop_eq_getElem_cons hlt]
   obtain ⟨_,e⟩:=List.getElem?_eq_some_iff.mp hd
   rw [e]
  rw [ed] at hc
  unfold uM at hc
  obtain ⟨go,yl⟩:=Yu d hd
  refine .inr ⟨go,fun x H3 y=>?_⟩
  obtain ⟨s3,r3⟩:=yl x H3 y
  split at hc
  case h_2=>cases hc
  rename_i ts ht
  obtain ⟨vs,tv,rvs⟩:=Uh (K:=K) ht r3 (wB _ _)
  refine ⟨vs,tv,?_⟩
  have k3:cg Θ H1 H3:=ki.trans (cg.of s3)
  have Rz:H3 D=some (.dK (ks.zip jf)):=s3 _ _ hDi
  have c3:jj Θ Ci H3:=⟨ci.len,fun n b ns e2 e3=>s3 _ _ (ci.at_ n b ns e2 e3)⟩
  have r3':rB (er PB H3) acc jf:=ri.same (vo s3)
  have SB:Sm K (qt D Z (rC js e1) σ) Θ (qp ts++frB js e1) Ci (vs.map some++frees js σ) H3:=Wc.blk hD k3 ⟨_,Rz,fun _ z=>nomatch z⟩ c3 rvs
  have Oq:D∉Θ:=fun m=>(S1.cell.dom D m).ne hD
  have stay:∀{Hx Hy:Hp},cg Θ Hx Hy→Hx D=some (.dK (ks.zip jf))→rB (er PB Hx) acc jf→Hy D=some (.dK (ks.zip jf))∧rB (er PB Hy) acc jf:=fun {Hx Hy} kk h1 h2=>
   ⟨kk.keep _ _ h1 Oq,h2.same (iM kk (fun a m=>(Jl a).mpr (.inr (bY.mpr (.inr (.inl m))))) fun a m=>.inl m)⟩
  have ePB:∀{eB:En} (Hx:Hp),Fz (qp ts++frB js e1) eB→er (aV (qt D Z (rC js e1) σ) Θ eB (vs.map some++frees js σ)) Hx=er PB Hx:=fun {eB} Hx fz=>jM fun a=>by
   have noB:bJ eB (vs.map some++frees js σ)=[]:=by
    have:=(Fz.own (σ:=vs.map some++frees js σ) fz)
    rw [pJ uq] at this
    exact List.sublist_nil.mp this
   rw [jt (js:=js) noB,Jl]
  split at hc
  ·rename_i Ct We
   refine ⟨_,Θ,_,Ci,false,Ct,SB,We,fun H4 k4 S4=>Ak ⟨its.length - (i + 1),by omega,rfl,hlt,acc,ks,jf,Ct,k3.trans k4,S4.cell,hks,(stay k4 Rz r3').1,(stay k4 Rz r3').2,hc⟩⟩
  ·rename_i Ct We
   split at hc
   case h_2=>cases hc
   rename_i kd eK CK hfk
   split at hc
   case h_2=>cases hc
   rename_i xr eB CB hfv
   split at hc
   case h_2=>cases hc
   rename_i yd kk hyd hkd
   split at hc
   case isFalse=>cases hc
   rename_i hlm
   refine ⟨_,Θ,_,Ci,true,Ct,SB,We,fun H4 k4 S4=>Al ⟨_,Θ,_,Ct,_,eK,CK,S4,hfk,fun y H5 k5 f5 R5=>?_⟩⟩
   have S5:=S4.go k5 R5.1.cell
   refine ⟨_,Θ,_,CK,xr,eB,CB,S5,hfv,fun z H6 k6 f6 R6=>?_⟩
   obtain ⟨S6,r6⟩:=R6.qx hyd
   obtain ⟨hD4,r4⟩:=stay k4 Rz r3'
   obtain ⟨hD5,Zh⟩:=stay k5 hD4 r4
   obtain ⟨hD6,r6'⟩:=stay k6 hD5 Zh
   rw [ePB H6 f6] at r6
   have yk:y=kV kk:=VV hkd R5.2
   obtain ⟨ks',vs',g3,g4,g5⟩:=vB hkd r6 hks r6'
   refine ⟨ks.zip jf,kk,hD6,yk,?_,its.length - (i + 1),by omega,rfl,hlt,nP fP kk kd yd acc,ks',vs',CB,?_,?_,g3,by rw [g5]; exact aX,?_,hc⟩
   ·rw [List.length_zip,sizeLine_eq,jC hks]
    unfold jA at hlm
    omega
   ·have kk':=((k3.trans k4).trans k5).trans k6
    refine ⟨fun a o ha na=>?_,fun a ha=>?_⟩
    ·rw [aY (cu ha hD)]
     exact kk'.keep _ _ ha na
    ·by_cases z:a=D
     ·subst z; rw [aX]; exact Option.some_ne_none _
     ·rw [aY z]; exact kk'.dom a ha
   ·refine ⟨S6.cell.len,fun n b ns e2 e3=>?_⟩
    rw [aY]
    ·exact S6.cell.at_ n b ns e2 e3
    ·intro z
     subst z
     exact Oq (List.mem_of_getElem? e2)
   ·rw [G3 dPB]
    exact g4
  ·cases hc
section
variable {X:Cx} {NT NF:List Str} {js:List Nat} {kx vx tg iter:Expr} {ifs:List Expr} {T:rA} {fi:FI} {ft:FT} {fk fv:FE} {scope:Scope} {pos:Pos}
theorem O1 {i:Nat} {y:Str} {pos' spos:Pos} (B:qu X NT NF js scope) (tk:vZ tg NT T) (hc:X.calm=true) (hu:X.A.units + 1 < cLine) (hi:PI X tg iter (tI X.K true fi))
  (hin:∀b,Kg (X.bk (NT++NF) scope b) ifs (pY X.K ft)∧PE (X.bk (NT++NF) scope b) kx (tE X.K fk)∧PE (X.bk (NT++NF) scope b) vx (tE X.K fv))
  (hsw:swapsWith (.DictComp kx vx [⟨tg,iter,ifs,0⟩] scope pos) (some (.Name y pos')) spos.line X.env=pure true) (hN:X.N.Nodup) (hI:X.N[i]?=some y) (hy:X.env.scope.names.lookup y=some .local)
  (hs:∀x,foldedSetIterable iter X.env x=pure x:=by intro _; rfl):PS X (.Assign [.Name y pos'] (.DictComp kx vx [⟨tg,iter,ifs,0⟩] scope pos) spos) (tS X.K (bQ i (W0 fi T ft fk fv js))):=(M3 B tk hc hu hi hin hsw hN hI hy hs).weak (wW RV)
end
end L2
set_option maxHeartbeats 4000000
namespace L2
open PySem PySem.Spec PyProof.Rows PySem.W
section
variable {X:Cx}
theorem Hf (hc:X.calm=true):dF X (.builtin "max") (fun xs H Q=>∃(p:Addr) (ns:List Int),xs=[.ref p]∧dW X.K H p (ns.map V.int)∧ns≠[]∧Q (.int (maxD 0 ns)) H):=by
 intro pins s σ H xs us Q I r h
 obtain ⟨p,ns,rfl,hq,hne,q⟩:=h
 obtain ⟨u,rfl,rx⟩:=vals1 r
 cases rx
 obtain ⟨its,r',pl,hz⟩:=I.list hq
 have hi:IntsAre its ns:=intsAre_of r'
 have ln:its.length=ns.length:=hi.length
 have pos:0 < ns.length:=List.length_pos_iff.mpr hne
 have hl:=pl.isList
 have Ye:p < s.heap.objs.size:=by obtain ⟨o,ho,_⟩:=hl; exact Heap.lt_size ho
 have val:∀(i:Nat) (v:Value),its.toArray[i]?=some v→∃t,v=Value.int (ns.getD i 0) t:=fun i v hv=>IntsAre.int_at hi i v (by simpa using hv)
 have hh:=I.ok.hd hc
 refine call_max_walk (wpAny_pyIter_list hl ?_)
 refine ⟨_,_,_,_,_,_,_,rfl,Walks.list (prog:=X.prog) (w:=X.w) (A:=X.A.in1) (by simp [hh]) s.heap.objs.size p (Nat.ne_of_lt Ye) its.toArray,⟨⟨_,Heap.get?_push_size _ rfl,rfl,rfl⟩,hl.push _⟩,fun b hb=>?_,by rw [List.size_toArray,ln]; exact pos,CmpOf.ints_gt (fun i=>ns.getD i 0) val,fun v h' tk hP hk=>?_⟩
 ·rw [Heap.size_push]
  simp only [List.mem_cons,List.not_mem_nil,or_false] at hb
  rcases hb with rfl | rfl
  ·exact Nat.lt_succ_self _
  ·exact Nat.lt_succ_of_lt Ye
 ·rw [List.size_toArray,ln] at hP
  obtain ⟨t,e⟩:=val _ v hP
  rw [Iw ns pos 0] at e
  subst e
  refine ⟨.int _,H,I.kept (t':=tk) fun b o e=>hk b o ?_ (Heap.get?_push_of_some _ e),⟨_,rfl⟩,q⟩
  simp only [List.mem_cons,List.not_mem_nil,or_false]
  exact Nat.ne_of_lt (Heap.lt_size e)
def uv:List PyData→Option Vl
 | [.list ds]=>match intsOf ds with
  | some (n::ns)=>some (.im (.int (maxD 0 (n::ns))))
  | _=>none
 | _=>none
theorem RW {K:PySem.W.Frag}:zq K (fun xs H Q=>∃(p:Addr) (ns:List Int),xs=[.ref p]∧dW K H p (ns.map V.int)∧ns≠[]∧Q (.int (maxD 0 ns)) H) uv:=by
 intro Z Θ env C σ H xs ds res S b e Q q
 unfold uv at e
 split at e
 case h_2=>cases e
 rename_i ds
 split at e
 case h_2=>cases e
 rename_i n ns hns
 cases e
 obtain ⟨v,rfl,bb⟩:=kI b
 obtain ⟨a,vs,rfl,ha,r⟩:=bb.lst
 rw [mW hns r] at ha
 exact ⟨a,_,rfl,dW.of ha,(fun z=>nomatch z),q _ H (cg.refl _ _) (bL S rfl rfl)⟩
theorem Bp (hc:X.calm=true):dF X (.type "list") (fun xs H Q=>∃(d:Addr) (kvs:List (Key×V)),xs=[.ref d]∧H d=some (.dK kvs)∧∀l,H l=none→Q (.ref l) (upd H l (.lst (kvs.map fun kv=>kV kv.1)))):=by
 intro pins s σ H xs us Q I r h
 obtain ⟨d,kvs,rfl,hd,q⟩:=h
 obtain ⟨u,rfl,ru⟩:=vals1 r
 cases ru
 obtain ⟨z,lo,vs,rel,dd⟩:=I.hok d _ hd
 obtain ⟨ep,da⟩:=dd.dictAt
 have lv:vs.length=kvs.length:=(Paired.length rel).symm
 refine kdl_call (kdl_dict (knd:=dJ X.prog X.w) (ep:=ep) lo) (I.ok.hd hc) da (by rw [lv]; exact z) fun h' tk acc' c' kp e hacc=>?_
 have hl:Vals (kvs.map fun kv=>kV kv.1) acc'.toList:=by
  have h2:acc'.toList.length=vs.length:=by rw [Array.length_toList]; exact hacc.1
  have h3:∀i v,acc'.toList[i]?=some v→∃k x,vs[i]?=some (k,x)∧(dJ X.prog X.w).is k v=true:=fun i v e=>hacc.2 i v (by rw [←Array.getElem?_toList]; exact e)
  clear e hacc dd da
  generalize acc'.toList=us at h2 h3
  clear hd q z lv
  induction rel generalizing us with
  | nil=>
   cases us with
   | nil=>exact .nil
   | cons _ _=>cases h2
  | @cons p w ps ws hp _ ih=>
   cases us with
   | nil=>cases h2
   | cons u us=>
    refine .cons ?_ (ih us (by simpa using h2) fun i v e=>by simpa using h3 (i + 1) v (by simpa using e))
    obtain ⟨k,x,e1,e2⟩:=h3 0 u rfl
    simp at e1
    have ek:k=p.1:=by rw [hp.1,e1]
    subst ek
    rcases dD e2 with ⟨i,t,e3,e4⟩ | ⟨y,t,e3,e4⟩
    ·show RelV (kV p.1) u
     rw [e3,e4]; exact ⟨t,rfl⟩
    ·show RelV (kV p.1) u
     rw [e3,e4]; exact ⟨t,rfl⟩
 refine ⟨.ref s.heap.objs.size,_,I.laid (t':=tk) kp (Nat.le_refl _) (show cF X.prog X.w _ h' _ (.lst (kvs.map fun kv=>kV kv.1)) from ⟨by rw [List.length_map]; exact z,acc'.toList,c',hl,by simpa using e⟩),rfl,q _ (I.hok.fresh (Nat.le_refl _))⟩
def p6:List PyData→Option Vl
 | [.list ds]=>some (.ow (.list ds))
 | [.tuple ds]=>some (.ow (.list ds))
 | [.dict kvs]=>if (cV fP kvs).isSome then some (.ow (.list (kvs.map (·.1)))) else none
 | _=>none
def O2 (K:PySem.W.Frag):List V→Hp→VK→Prop:=fun xs H Q=>(∃p ys,xs=[.ref p]∧(dW K H p ys∨jz K H p ys)∧∀l,H l=none→Q (.ref l) (upd H l (.lst ys)))∨∃(d:Addr) (kvs:List (Key×V)),xs=[.ref d]∧H d=some (.dK kvs)∧∀l,H l=none→Q (.ref l) (upd H l (.lst (kvs.map fun kv=>kV kv.1)))
theorem Hg (hc:X.calm=true):dF X (.type "list") (O2 X.K):=Aj.or (Bp hc)
theorem Ej {E:Hp}:∀{kvs:List (PyData×PyData)} {ks:List Key} {vs:List V},cV fP kvs=some ks→ks.length=vs.length→g8 E (kvs.map (·.1)) ((ks.zip vs).map fun kv=>kV kv.1)
 | [],ks,vs,h,_=>by cases h; rfl
 | (p,d)::kvs,ks,vs,h,hl=>by
  unfold cV at h
  split at h
  ·rename_i k t h1 h2
   cases h
   cases vs with
   | nil=>cases hl
   | cons v vs=>
    refine ⟨_,_,rfl,?_,Ej h2 (by simpa using hl)⟩
    cases p <;> first | (cases h1; rfl) | cases h1
  ·cases h
theorem O3 {K:PySem.W.Frag}:zq K (O2 K) p6:=by
 intro Z Θ env C σ H xs ds res S b e Q q
 unfold p6 at e
 split at e
 case h_4=>cases e
 ·cases e
  obtain ⟨v,rfl,bb⟩:=kI b
  obtain ⟨a,vs,rfl,ha,r⟩:=bb.lst
  exact .inl ⟨a,vs,rfl,.inl (dW.of ha),fun l hl=>q _ _ (cg.upd hl) (gb S r hl)⟩
 ·cases e
  obtain ⟨v,rfl,bb⟩:=kI b
  obtain ⟨a,vs,rfl,ha,r⟩:=bb.tup
  exact .inl ⟨a,vs,rfl,.inr (jz.of ha),fun l hl=>q _ _ (cg.upd hl) (gb S r hl)⟩
 ·split at e
  case isFalse=>cases e
  rename_i kvs hs
  cases e
  obtain ⟨v,rfl,bb⟩:=kI b
  obtain ⟨a,vs,rfl,da,r⟩:=bb.dct
  rcases da with ⟨ks,h1,ha⟩ | ⟨ks,⟨ne,h2⟩,ha⟩
  ·exact .inr ⟨a,_,rfl,ha,fun l hl=>q _ _ (cg.upd hl) (gb S (Ej h1 (by rw [jC h1,rR r])) hl)⟩
  ·obtain ⟨ks',h1⟩:=Option.isSome_iff_exists.mp hs
   exact absurd (j6 h1 h2) ne
def vH:List PyData→Option Vl
 | [.dict []]=>none
 | [.dict ((k,v)::r)]=>match vd k with
  | some (b::sh)=>if r.length < 63∧(((k,v)::r).all fun p=>decide (vd p.1=some (b::sh)))=true then some (.ow (.list (fV Jp (((k,v)::r).map (·.1))))) else none
  | _=>none
 | _=>none
theorem zB {sh:List Bool}:∀{kvs:List (PyData×PyData)} {ks:List (List Key)},cV fj kvs=some ks→(∀p∈kvs,vd p.1=some sh)→kvs.map (·.1)=ks.map (fun k=>.tuple (k.map K3))∧∀k∈ks,k.map gA=sh
 | [],ks,h,_=>by cases h; exact ⟨rfl,fun _ m=>(nomatch m)⟩
 | (p,d)::kvs,ks,h,hs=>by
  unfold cV at h
  split at h
  ·rename_i k t h1 h2
   cases h
   obtain ⟨g1,g2⟩:=zB h2 fun q m=>hs q (List.mem_cons_of_mem _ m)
   have hp:=hs (p,d) List.mem_cons_self
   obtain ⟨xs,rfl,hx⟩:∃xs,p=.tuple xs∧keysOf xs=some k:=by
    have h1':fj p=some k:=h1
    cases p with
    | tuple xs=>exact ⟨xs,rfl,h1'⟩
    | _=>cases h1'
   have hp:(keysOf xs).map (fun ks=>ks.map gA)=some sh:=hp
   rw [hx] at hp
   refine ⟨by rw [List.map_cons,g1,xu hx]; rfl,fun k' m=>?_⟩
   rcases List.mem_cons.mp m with rfl | m
   ·exact Option.some.inj hp
   ·exact g2 k' m
  ·cases h
theorem O4 {K:PySem.W.Frag}:zq K (fun xs H Q=>∃(d:Addr) (kvs:List (List Key×V)) (b:Bool) (sh:List Bool),xs=[.ref d]∧H d=some (.dT kvs)∧kvs.length < 64∧(∀kv∈kvs,kv.1.map gA=b::sh)∧
  ∀(l:Addr) (rows:List Row),H l=none→(rows.map (·.2)).Perm (kvs.map (·.1))→(rows.map (·.2)).Pairwise (fun a b=>cL b a=false)→(∀r∈rows,H r.1=some (.tup (r.2.map kV)))→Q (.ref l) (upd H l (.lst (rows.map fun r=>V.ref r.1)))) vH:=by
 intro Z Θ env C σ H xs ds res S b e Q q
 unfold vH at e
 split at e
 ·cases e
 ·rename_i k0 v0 r0
  split at e
  case h_2=>cases e
  rename_i b0 sh hsh
  split at e
  case isFalse=>cases e
  rename_i hall
  cases e
  have hall':∀p∈(k0,v0)::r0,vd p.1=some (b0::sh):=fun d m=>of_decide_eq_true (List.all_eq_true.mp hall.2 d m)
  obtain ⟨v,rfl,bb⟩:=kI b
  obtain ⟨a,vs,rfl,da,r⟩:=bb.dct
  rcases da with ⟨ks,h1,ha⟩ | ⟨ks,⟨ne,h2⟩,ha⟩
  ·exfalso
   unfold cV at h1
   split at h1
   ·rename_i k' t g1 g2
    have g1:fP k0=some k':=g1
    cases k0 <;> first | cases g1 | skip
    all_goals cases hsh
   ·cases h1
  ·obtain ⟨e1,e2⟩:=zB h2 hall'
   have lk:=jC h2
   have lr:=rR r
   have ez:(ks.zip vs).map (·.1)=ks:=by
    rw [List.map_fst_zip]
    rw [lk,lr]
    exact Nat.le_refl _
   refine ⟨a,ks.zip vs,b0,sh,rfl,ha,?_,fun kv m=>e2 kv.1 (List.of_mem_zip (a:=kv.1) (b:=kv.2) m).1,fun l rows hn p hp hr=>?_⟩
   ·rw [List.length_zip,lk,lr,List.length_cons]
    omega
   ·rw [ez] at p
    have hrow:∀d∈((k0,v0)::r0).map (·.1),Wj (b0::sh) d:=fun d m=>by
     rw [e1] at m
     obtain ⟨k,mk,rfl⟩:=List.mem_map.mp m
     exact ⟨_,k,rfl,kY _,e2 k mk⟩
    have pd:(rows.map fun r=>PyData.tuple (r.2.map K3)).Perm (((k0,v0)::r0).map (·.1)):=by
     rw [e1]
     have:=p.map (fun k=>PyData.tuple (k.map K3))
     rw [List.map_map] at this
     exact this
    have up:(rows.map fun r=>PyData.tuple (r.2.map K3)).Pairwise (fun a b=>Jp b a=false):=by
     rw [List.pairwise_map]
     rw [List.pairwise_map] at hp
     exact hp.imp fun {a b} hab=>by rw [nR (kY _) (kY _)]; exact hab
    have es:=vD (Yx (b0::sh)) hrow pd up
    rw [←es] at q
    exact q _ _ (cg.upd hn) (gb S (xx fun r m=>wM S (hr r m)) hn)
 ·cases e
theorem O5 {K:PySem.W.Frag} {r r':List V→Hp→VK→Prop} {op op':List PyData→Option Vl} (h:zq K r op) (h':zq K r' op'):zq K (fun xs H Q=>r xs H Q∨r' xs H Q) (fun ds=>match op ds with | some z=>some z | none=>op' ds):=by
 intro Z Θ env C σ H xs ds res S b e Q q
 cases h1:op ds with
 | some z=>
  simp only [h1] at e
  cases e
  exact .inl (h Z Θ env C σ H xs ds _ S b h1 Q q)
 | none=>
  simp only [h1] at e
  exact .inr (h' Z Θ env C σ H xs ds res S b e Q q)
end
def vf:List PyData→List PyData→List PyData
 | x::xs,y::ys=>.tuple [x,y]::vf xs ys
 | _,_=>[]
theorem Jq:∀{xs ys:List PyData} {i:Nat} {d:PyData},(vf xs ys)[i]?=some d→∃x y,xs[i]?=some x∧ys[i]?=some y∧d=.tuple [x,y]
 | [],_,i,d,h=>by simp [vf] at h
 | _::_,[],i,d,h=>by simp [vf] at h
 | x::xs,y::ys,0,d,h=>by
  simp [vf] at h
  exact ⟨x,y,rfl,rfl,h.symm⟩
 | x::xs,y::ys,i + 1,d,h=>by
  obtain ⟨a,b,h1,h2,h3⟩:=Jq (i:=i) (by simpa [vf] using h)
  exact ⟨a,b,by simpa using h1,by simpa using h2,h3⟩
theorem Ek:∀{xs ys:List PyData},(vf xs ys).length=min xs.length ys.length
 | [],_=>by simp [vf]
 | _::_,[]=>by simp [vf]
 | x::xs,y::ys=>by simp [vf,Ek,Nat.succ_min_succ]
theorem Wl {K:PySem.W.Frag} {P T:List Addr} {H:Hp} {a b:Addr} {ds es:List PyData} {vs ws:List V} (ha:er T H a=some (.lst vs)) (hb:er T H b=some (.lst ws)) (r1:g8 (er P H) ds vs) (r2:g8 (er P H) es ws):DX P T H (Itz K a b) (vf ds es):=fun i H2 P2 s1 s2 n=>by
 have h2:dW K H2 a vs:=dW.of (cj (s2 _ _ ha))
 have h3:dW K H2 b ws:=dW.of (cj (s2 _ _ hb))
 refine ⟨fun d hd=>?_,fun hi=>⟨vs,ws,h2,h3,by rw [hi,Ek,cG r1,cG r2]⟩⟩
 obtain ⟨x,y,e1,e2,rfl⟩:=Jq hd
 obtain ⟨v,ev,rv⟩:=qJ r1 e1
 obtain ⟨w,ew,rw'⟩:=qJ r2 e2
 refine ⟨⟨vs,ws,h2,h3,?_⟩,fun z H3 yl=>?_⟩
 ·have l1:=(List.getElem?_eq_some_iff.mp ev).1
  have l2:=(List.getElem?_eq_some_iff.mp ew).1
  omega
 ·obtain ⟨p,v',w',hp,rfl,rfl,hh⟩:=yl
  obtain ⟨g1,g2⟩:=hh vs ws h2 h3
  rw [ev] at g1
  rw [ew] at g2
  cases g1
  cases g2
  have sp:bz H2 (upd H2 p (.tup [v,w])):=bz.upd hp
  refine ⟨sp,p,[v,w],rfl,?_,v,[w],rfl,rv.same (s1.trans (vo sp)),w,[],rfl,rw'.same (s1.trans (vo sp)),rfl⟩
  unfold er
  rw [if_neg (fun m=>n p m hp),aX]
def iZp (f:Qn):FI:=fun env C=>match f env C with
 | some ([.list xs,.list ys],e1,C1)=>some (vf xs ys,e1,C1)
 | _=>none
theorem Wm {X:Cx} {es:List Expr} {k:Nat} {ps:Pos} {x y:Expr} {f:Qn} {p pos:Pos} (hg:Gl X "zip") (hm:X.mg "zip"=none) (ha:PA X [x,y] (VP X.K f)) (hs:starEach [x,y] X.env=[(false,eval x X.env),(false,eval y X.env)]:=by rfl) (hs2:starEach [y] X.env=[(false,eval y X.env)]:=by rfl):
  PI X (.Tuple es k ps) (.Call (.Name "zip" p) [x,y] [] pos) (tI X.K true (iZp f)):=(VG hg hm ha hs hs2).weak fun σ H R ⟨Z,Θ,env,C,its,env',C',S,hf,q⟩=>by
 unfold iZp at hf
 split at hf
 case h_2=>cases hf
 rename_i xs ys e1 C1 h1
 cases hf
 refine ⟨Z,Θ,env,C,_,env',C',S,h1,fun vs H1 k f S1 b1=>?_⟩
 cases b1 with
 | cons b1 b2=>
  cases b2 with
  | cons b2 b3=>
   cases b3
   obtain ⟨a,vs1,rfl,ha,r1⟩:=b1
   obtain ⟨b,vs2,rfl,hb,r2⟩:=b2
   exact ⟨a,b,vs1,vs2,rfl,dW.of (cj ha),dW.of (cj hb),q _ H1 k f S1 (Wl ha hb r1 r2)⟩
end L2
namespace L2
open PySem PySem.Spec PyProof.Rows PySem.W
section
variable {X:Cx} {tg e:Expr}
def R0:PyData→Option (List PyData)
 | .list ds=>some ds
 | .tuple ds=>some ds
 | _=>none
def Qo (f:FB):FI:=fun env C=>match f env C with
 | some (d,e1,C1)=>match R0 d with
  | some its=>some (its,e1,C1)
  | none=>none
 | none=>none
def W2 (f:FE):FI:=fun env C=>match f env C with
 | some (r,e1,C1)=>match still r with
  | .im d=>match R0 d with
   | some its=>some (its,e1,C1)
   | none=>none
  | _=>none
 | none=>none
theorem Uk {f:FB} (h:PE X e (nG X.K f)):PI X tg e (tI X.K true (Qo f)):=((vg h).or (z9 h)).weak fun σ H R ⟨Z,Θ,env,C,its,env',C',S,hf,q⟩=>by
 unfold Qo at hf
 split at hf
 ·rename_i d e1 C1 h1
  split at hf
  ·rename_i ys hi
   cases hf
   cases d <;> first | cases hi | skip
   ·refine .inl ⟨Z,Θ,env,C,_,env',C',S,h1,fun v H1 k f S1 b=>?_⟩
    obtain ⟨a,vs,rfl,ha,r⟩:=b
    exact ⟨a,rfl,⟨vs,dW.of (cj ha)⟩,q _ H1 k f S1 (vC ha r)⟩
   ·refine .inr ⟨Z,Θ,env,C,_,env',C',S,h1,fun v H1 k f S1 b=>?_⟩
    obtain ⟨a,vs,rfl,ha,r⟩:=b
    exact ⟨a,rfl,⟨vs,jz.of (cj ha)⟩,q _ H1 k f S1 (Bh ha r)⟩
  ·cases hf
 ·cases hf
theorem Ul {f:FE} (h:PE X e (tE X.K f)):PI X tg e (tI X.K false (W2 f)):=((vg h).or (z9 h)).weak fun σ H R ⟨Z,Θ,env,C,its,env',C',S,hf,q⟩=>by
 unfold W2 at hf
 split at hf
 ·rename_i r e1 C1 h1
  split at hf
  ·rename_i d hd
   split at hf
   ·rename_i ys hi
    cases hf
    cases d <;> first | cases hi | skip
    ·refine .inl ⟨Z,Θ,env,C,_,env',C',S,h1,fun v H1 k f R=>?_⟩
     obtain ⟨S1,a,vs,rfl,ha,r⟩:=R.qx hd
     exact ⟨a,rfl,⟨vs,dW.of (cj ha)⟩,q _ H1 k f S1 (vC ha r)⟩
    ·refine .inr ⟨Z,Θ,env,C,_,env',C',S,h1,fun v H1 k f R=>?_⟩
     obtain ⟨S1,a,vs,rfl,ha,r⟩:=R.qx hd
     exact ⟨a,rfl,⟨vs,jz.of (cj ha)⟩,q _ H1 k f S1 (Bh ha r)⟩
   ·cases hf
  ·cases hf
 ·cases hf
theorem xH (hc:X.calm=true):dF X (.builtin "sorted") (fun xs H Q=>∃d:Addr,xs=[.ref d]∧H d=some (.dK [])∧∀l,H l=none→Q (.ref l) (upd H l (.lst []))):=by
 intro pins s σ H xs us Q I r h
 obtain ⟨d,rfl,hd,q⟩:=h
 refine eZ (oN hc pins s σ (upd H d (.dT [])) [.ref d] us (fun v H'=>∃l,v=.ref l∧H l=none∧H'=upd (upd H d (.dT [])) l (.lst [])) (I.Ym hd) r ⟨d,[],true,[],rfl,aX,by decide,(fun _ m=>nomatch m),fun l rows hl p _ _=>?_⟩) fun u s' ⟨v,H',I',rv,l,ev,hl,eH⟩=>?_
 ·have:rows=[]:=by
   cases rows with
   | nil=>rfl
   | cons _ _=>exact absurd p.length_eq (by simp)
  subst this
  refine ⟨l,rfl,?_,rfl⟩
  by_cases z:l=d
  ·subst z; rw [aX] at hl; cases hl
  ·rw [aY z] at hl; exact hl
 ·subst ev eH
  have nd:d≠l:=cu hd hl
  have e:upd (upd H d (.dT [])) l (.lst [])=upd (upd H l (.lst [])) d (.dT []):=by
   funext b
   by_cases h1:b=l
   ·subst h1; rw [aX,aY (Ne.symm nd),aX]
   ·rw [aY h1]
    by_cases h2:b=d
    ·subst h2; rw [aX,aX]
    ·rw [aY h2,aY h2,aY h1]
  rw [e] at I'
  exact ⟨.ref l,_,I'.Ze (by rw [aY nd]; exact hd),rv,q l hl⟩
def Bq:List PyData→Option Vl
 | [.dict []]=>some (.ow (.list []))
 | _=>none
theorem O6 {K:PySem.W.Frag}:zq K (fun xs H Q=>∃d:Addr,xs=[.ref d]∧H d=some (.dK [])∧∀l,H l=none→Q (.ref l) (upd H l (.lst []))) Bq:=by
 intro Z Θ env C σ H xs ds res S b e Q q
 unfold Bq at e
 split at e
 case h_2=>cases e
 cases e
 obtain ⟨v,rfl,bb⟩:=kI b
 obtain ⟨a,vs,rfl,da,r⟩:=bb.dct
 rcases da with ⟨ks,h1,ha⟩ | ⟨ks,⟨ne,_⟩,_⟩
 ·cases h1
  exact ⟨a,rfl,ha,fun l hl=>q _ _ (cg.upd hl) (gb S rfl hl)⟩
 ·exact absurd rfl ne
def dN (ds:List PyData):Option Vl:=match kW ds with
 | some z=>some z
 | none=>match vH ds with
  | some z=>some z
  | none=>Bq ds
abbrev O7 (K:PySem.W.Frag):List V→Hp→VK→Prop:=fun xs H Q=>G6 K xs H Q∨((∃(d:Addr) (kvs:List (List Key×V)) (b:Bool) (sh:List Bool),xs=[.ref d]∧H d=some (.dT kvs)∧kvs.length < 64∧(∀kv∈kvs,kv.1.map gA=b::sh)∧
  ∀(l:Addr) (rows:List Row),H l=none→(rows.map (·.2)).Perm (kvs.map (·.1))→(rows.map (·.2)).Pairwise (fun a b=>cL b a=false)→(∀r∈rows,H r.1=some (.tup (r.2.map kV)))→Q (.ref l) (upd H l (.lst (rows.map fun r=>V.ref r.1))))∨∃d:Addr,xs=[.ref d]∧H d=some (.dK [])∧∀l,H l=none→Q (.ref l) (upd H l (.lst [])))
theorem nU (hc:X.calm=true):dF X (.builtin "sorted") (O7 X.K):=G7.or ((oN hc).or (xH hc))
theorem sH {K:PySem.W.Frag}:zq K (O7 K) dN:=O5 K4 (O5 O4 O6)
end
def O8:FN:=fun _ _=>none
theorem R4 {P:Program} {w:World} {K:PySem.W.Frag} {mg:Str→Option Value} {base:Heap} {f:Addr} {fd:FuncData} {ps:List Str}:gJ P w K mg base uY 0 f fd ps (spT K O8):=by
 have no:∀vs H Q E,¬spT K O8 vs H Q E:=fun vs H Q E ⟨_,_,_,_,_,_,_,_,h,_⟩=>nomatch h
 exact ⟨fun _ _ _ _ h=>(no _ _ _ _ h).elim,fun _ _ _ _ _ _ _ _ _ _ _ _ _ h=>(no _ _ _ _ h).elim⟩
end L2
namespace L2
open PySem PySem.Spec PyProof.Rows PySem.W
def gn (i:Nat) (f:FB):FE:=fun env C=>match env[i]? with
 | some (some (.ce n))=>match f env C with
  | some (.int k,_,C1)=>match C1[n]? with
   | some ns=>match j0 ns k with
    | some z=>some (.im (.int z),env,C1)
    | none=>none
   | none=>none
  | _=>none
 | _=>none
theorem qP {X:Cx} {o k:Expr} {i:Nat} {pos:Pos} {f:FB} (ho:PE X o (yH i)) (hk:PE X k (nG X.K f)) (hs:vh k):PE X (.Subscript o k pos) (tE X.K (gn i f)):=(Mr Af ho hk hs).weak fun σ H Q ⟨Z,Θ,env,C,r,env',C',S,hf,q⟩=>by
 unfold gn at hf
 split at hf
 case h_2=>cases hf
 rename_i n h0
 split at hf
 case h_2=>cases hf
 rename_i z e1 C1 h1
 split at hf
 case h_2=>cases hf
 rename_i ns hns
 split at hf
 case h_2=>cases hf
 rename_i y hy
 cases hf
 obtain ⟨v,ev,a,rfl,hth⟩:=S.slot i _ h0
 refine ⟨_,ev,Z,Θ,env,C,_,e1,C',S,h1,fun w H1 k1 f1 S1 b1=>?_⟩
 have S2:=S.go k1 S1.cell
 have ha:=S1.cell.at_ n a ns hth hns
 refine ⟨a,_,z,.int y,rfl,b1,dW.of ha,?_,q _ H1 k1 (Fz.refl _) ⟨S2,rfl⟩⟩
 unfold j0 at hy ⊢
 rw [List.length_map]
 cases hj:oV ns.length z with
 | none=>rw [hj] at hy; cases hy
 | some j=>
  rw [hj] at hy
  show (ns.map V.int)[j]?=_
  rw [List.getElem?_map,show ns[j]?=some y from hy]
  rfl
end L2
set_option maxHeartbeats 4000000
namespace L2
open PySem PySem.Spec PyProof.Rows PySem.W
def Bx (C:Ce) (b:Nat) (n:Int):Prop:=∃x y z:Int,C[b]?=some [x,y,z]∧0≤x∧0≤y∧y≤3000000000∧0≤z∧z≤n
theorem Bx.mono {C:Ce} {b:Nat} {n m:Int} (h:Bx C b n) (hm:n≤m):Bx C b m:=by
 obtain ⟨x,y,z,h1,h2,h3,h4,h5,h6⟩:=h
 exact ⟨x,y,z,h1,h2,h3,h4,h5,by omega⟩
theorem Br {C:Ce} {b:Nat} {l l':List Int} (h:C[b]?=some l):(C.set b l')[b]?=some l':=by
 rw [List.getElem?_set,if_pos rfl,if_pos (List.getElem?_eq_some_iff.mp h).1]
theorem take_set {C:Ce} {b:Nat} {l:List Int}:(C.set b l).take C.length=C.set b l:=List.take_of_length_le (by simp)
theorem cQ {C C':Ce} (h:C'.length=C.length):C'.take C.length=C':=List.take_of_length_le (by omega)
theorem mul_eq {i j:Int} (h:(-18446744073709551616 < i∧i < 18446744073709551616)∨(-18446744073709551616 < j∧j < 18446744073709551616)):iQ (.int i) (.int j)=some (.im (.int (i * j))):=by
 unfold iQ
 exact if_pos h
theorem pow_eq {i j:Int} (h0:0≤j) (h1:j≤1000000) (h2:i.natAbs < 2 ^ 64):oO (.int i) (.int j)=some (.im (.int (i ^ j.toNat))):=by
 unfold oO
 exact if_pos ⟨h0,h1,h2⟩
theorem mod_eq {i j:Int} (h:0 < j):jB (.int i) (.int j)=some (.im (.int (i % j))):=by
 unfold jB
 exact if_pos h
theorem El {g:FG} {body:FS} (I:Nat→En→Ce→Prop):∀{its:List PyData} {env:En} {C:Ce} {k:Nat},I k env C→
  (∀i d env C,its[i]?=some d→I (k + i) env C→∃e1 fl env' C',g d env=some e1∧body e1 C=some (fl,env',C')∧(fl=.nx∨fl=.ct)∧I (k + i + 1) env' C')→
  ∃env' C',kj g body its env C=some (.nx,env',C')∧I (k + its.length) env' C'
 | [],env,C,k,h,_=>⟨env,C,rfl,h⟩
 | d::r,env,C,k,h,st=>by
  obtain ⟨e1,fl,aaw,C1,h1,h2,h3,h4⟩:=st 0 d env C rfl h
  obtain ⟨aax,C2,h5,h6⟩:=El I (its:=r) (env:=aaw) (C:=C1) (k:=k + 1) h4 fun i d' env C hd hi=>by
   have:=st (i + 1) d' env C (by simpa using hd) (by rw [show k + (i + 1)=k + 1 + i by omega]; exact hi)
   rw [show k + (i + 1) + 1=k + 1 + i + 1 by omega] at this
   exact this
  refine ⟨aax,C2,?_,by rw [List.length_cons,show k + (r.length + 1)=k + 1 + r.length by omega]; exact h6⟩
  unfold kj
  rw [h1]
  simp only
  rw [h2]
  rcases h3 with rfl | rfl <;> exact h5
theorem cZ {g:FG} {body:FS} (I:Nat→En→Ce→Prop) {its:List PyData} {env:En} {C:Ce} (h:I 0 env C)
  (st:∀i d env C,its[i]?=some d→I i env C→∃e1 fl env' C',g d env=some e1∧body e1 C=some (fl,env',C')∧(fl=.nx∨fl=.ct)∧I (i + 1) env' C'):
  ∃env' C',kj g body its env C=some (.nx,env',C')∧I its.length env' C':=by
 have:=El I (k:=0) h fun i d env C hd hi=>by
  rw [Nat.zero_add] at hi ⊢
  exact st i d env C hd hi
 rw [Nat.zero_add] at this
 exact this
theorem mX (lo:Int) (n:Nat):(nQ lo n).length=n:=by unfold nQ; rw [List.length_map,List.length_range]
theorem nW {lo:Int} {n i:Nat} {d:PyData} (h:(nQ lo n)[i]?=some d):d=.int (lo + i)∧i < n:=by
 unfold nQ at h
 rw [List.getElem?_map] at h
 by_cases hi:i < n
 ·rw [List.getElem?_range hi] at h
  exact ⟨(Option.some.inj h).symm,hi⟩
 ·rw [List.getElem?_eq_none (by rw [List.length_range]; omega)] at h
  cases h
theorem nY {T:rA} {ft:FT} {fe:FE} {fs:En} {C:Ce} (p:PyData→Bool) (g:PyData→PyData):∀{its:List PyData},(∀d∈its,∃ts,Ue T d=some ts∧ft (qp ts++fs) C=some (p d,C)∧(p d=true→∃x e,fe (qp ts++fs) C=some (x,e,C)∧still x=.im (g d)))→
  gm T ft fe fs its C=some ((its.filter p).map g,C)
 | [],_=>rfl
 | d::r,h=>by
  obtain ⟨ts,h1,h2,h3⟩:=h d List.mem_cons_self
  have ih:=nY p g (its:=r) fun d m=>h d (List.mem_cons_of_mem _ m)
  unfold gm
  simp only [h1]
  rw [h2]
  cases hp:p d with
  | true=>
   obtain ⟨x,e,h4,h5⟩:=h3 hp
   simp only [h4,h5,ih,List.filter_cons,hp,if_true,List.map_cons]
  | false=>
   simp only [ih,List.filter_cons,hp]
   rfl
theorem zE {T:rA} {fe:FE} {fs:En} (I:Nat→Ce→Prop) (R:Nat→PyData→Prop):∀{its:List PyData} {C:Ce} {k:Nat},I k C→(∀i d C,its[i]?=some d→I (k + i) C→∃ts x e C' y,Ue T d=some ts∧fe (qp ts++fs) C=some (x,e,C')∧still x=.im y∧R (k + i) y∧I (k + i + 1) C')→
  ∃ys C',gm T gj fe fs its C=some (ys,C')∧I (k + its.length) C'∧ys.length=its.length∧∀i y,ys[i]?=some y→R (k + i) y
 | [],C,k,h,_=>⟨[],C,rfl,h,rfl,fun i y e=>by simp at e⟩
 | d::r,C,k,h,st=>by
  obtain ⟨ts,x,e,C1,y,h1,h2,h3,h4,h5⟩:=st 0 d C rfl h
  obtain ⟨ys,C2,h6,h7,h8,h9⟩:=zE I R (its:=r) (C:=C1) (k:=k + 1) h5 fun i d' C hd hi=>by
   have:=st (i + 1) d' C (by simpa using hd) (by rw [show k + (i + 1)=k + 1 + i by omega]; exact hi)
   rw [show k + (i + 1) + 1=k + 1 + i + 1 by omega,show k + (i + 1)=k + 1 + i by omega] at this
   exact this
  refine ⟨y::ys,C2,?_,by rw [List.length_cons,show k + (r.length + 1)=k + 1 + r.length by omega]; exact h7,by simp [h8],fun i z hz=>?_⟩
  ·unfold gm
   simp only [h1,gj,h2,h3]
   rw [h6]
  ·cases i with
   | zero=>simp at hz; subst hz; exact h4
   | succ i=>
    have:=h9 i z (by simpa using hz)
    rw [show k + (i + 1)=k + 1 + i by omega]
    exact this
theorem pL {fi:FI} {T:rA} {ft:FT} {fe:FE} {js:List Nat} {env e1:En} {C C1 C2:Ce} {its ys:List PyData} (h1:fi env C=some (its,e1,C1)) (h2:gm T ft fe (frB js e1) its C1=some (ys,C2)) (h3:ys.length≤1000000) (h4:dX ys=true):mq fi T ft fe js env C=some (.ow (.list ys),e1,C2):=by
 unfold mq
 simp only [h1,h2,h4,if_true]
 exact if_pos h3
theorem sI {f:FB} {env e1:En} {C C1:Ce} {d:PyData} {its:List PyData} (h1:f env C=some (d,e1,C1)) (h2:Zf d=some its):iB f env C=some (its,e1,C1):=by
 unfold iB
 simp only [h1,h2]
theorem O9 {f:FB} {env e1:En} {C C1:Ce} {d:PyData} {its:List PyData} (h1:f env C=some (d,e1,C1)) (h2:R0 d=some its):Qo f env C=some (its,e1,C1):=by
 unfold Qo
 simp only [h1,h2]
theorem zF {f:FE} {env e1:En} {C C1:Ce} {r:Vl} {d:PyData} {its:List PyData} (h1:f env C=some (r,e1,C1)) (h0:still r=.im d) (h2:Zf d=some its):iV f env C=some (its,e1,C1):=by
 unfold iV
 simp only [h1,h0,h2]
theorem Pa {f:FE} {env e1:En} {C C1:Ce} {r:Vl} {d:PyData} {its:List PyData} (h1:f env C=some (r,e1,C1)) (h0:still r=.im d) (h2:R0 d=some its):W2 f env C=some (its,e1,C1):=by
 unfold W2
 simp only [h1,h0,h2]
theorem Bs {f:FB} {env e1:En} {C C1:Ce} {m:Int} (h1:f env C=some (.int m,e1,C1)) (h2:-1000000≤m) (h3:m≤1000000):zx f env C=some (nQ 0 m.toNat,env,C1):=by
 unfold zx
 simp only [h1]
 exact if_pos (by omega)
theorem kZ {fi:FI} {g:FG} {body:FS} {env e1:En} {C C1:Ce} {its:List PyData} (h1:fi env C=some (its,e1,C1)):dB fi g body env C=kj g body its e1 C1:=by
 unfold dB
 simp only [h1]
theorem seq_eq {f g:FS} {env e1:En} {C C1:Ce} (h:f env C=some (.nx,e1,C1)):bw f g env C=g e1 C1:=by
 unfold bw
 simp only [h]
theorem aF {f:FE} {env e1:En} {C C1:Ce} {r:Vl} {d:PyData} (h:f env C=some (r,e1,C1)) (h2:dat r=some d):ao f env C=some (d,e1,C1):=by
 unfold ao
 simp only [h,h2,Option.map_some]
theorem aO {op:PyData→PyData→Option Vl} {fa fb:FB} {env e1 e2:En} {C C1 C2:Ce} {x y:PyData} {r:Vl} (h1:fa env C=some (x,e1,C1)) (h2:fb e1 C1=some (y,e2,C2)) (h3:op x y=some r):aC op fa fb env C=some (r,rst r env e2,C2):=by
 unfold aC
 simp only [h1,h2,h3]
theorem fZ {i:Nat} {f:FE} {env e1:En} {C C1:Ce} {r:Vl} (h:f env C=some (r,e1,C1)):bQ i f env C=some (.nx,e1.set i (some r),C1):=by
 unfold bQ
 simp only [h]
theorem cR {f:FN} {g:FA} {env e1:En} {C C1 C2:Ce} {xs:List Vl} {r:Vl} (h1:g env C=some (xs,e1,C1)) (h2:f xs C1=some (r,C2)):aU f g env C=some (r,rst r env e1,C2):=by
 unfold aU
 simp only [h1,h2]
theorem uw {i:Nat} {f:FE} {env e1:En} {C C1:Ce} {r:Vl} {d:PyData} {ds:List PyData} (h0:eG env[i]?=true) (h1:f env C=some (r,e1,C1)) (h2:still r=.im d) (h3:e1[i]?=some (some (.ow (.list ds)))) (h4:ds.length < 1000000):fY i f env C=some (.nx,e1.set i (some (.ow (.list (ds++[d])))),C1):=by
 unfold fY
 simp only [h0,h1,h2,h3,if_true]
 exact if_pos h4
theorem Hh {d:PyData} {r:List PyData}:aR (.list (d::r)) (.int 0)=some (.im d):=by
 have:j0 (d::r) (0:Int)=some d:=Ae (j:=0) rfl
 simp only [aR,nJ,this,Option.map_some]
theorem Jr {f:FB} {lo hi:FO} {env e1:En} {C C1 C2 C3:Ce} {d:PyData} {l h:Option Int} {r:Vl} (h1:f env C=some (d,e1,C1)) (h2:lo e1 C1=some (l,C2)) (h3:hi e1 C2=some (h,C3)) (h4:Wk l h d=some r):lN f lo hi env C=some (r,rst r env e1,C3):=by
 unfold lN
 simp only [h1,h2,h3,h4]
theorem Pb {α:Type} {xs:List α} {k:Int} (h0:0≤k) (h1:k < xs.length):∃x,j0 xs k=some x∧xs[k.toNat]?=some x:=by
 have hk:k.toNat < xs.length:=by omega
 refine ⟨xs[k.toNat],?_,List.getElem?_eq_getElem hk⟩
 unfold j0 oV
 rw [if_pos h0,if_pos h1]
 exact List.getElem?_eq_getElem hk
end L2
set_option maxHeartbeats 4000000
namespace L2
open PySem PySem.Spec PyProof.Rows PySem.W
def Yz (z:Str):Bool:=z.cps.toList.all fun c=>decide (97≤c)&&decide (c≤122)
def nameB (z:Str):Bool:=decide (1≤z.length)&&decide (z.length≤8)&&Yz z
abbrev abc:Str:=Str.ofString "abcdefghijklmnopqrstuvwxyz"
theorem Wn {r:Int} (r0:0≤r) (r1:r < 26):j0 abc.cps.toList r=some (97 + r.toNat):=by
 have h:∀k:Nat,k < 26→j0 abc.cps.toList (k:Int)=some (97 + k):=by decide +kernel
 have:=h r.toNat (by omega)
 rwa [Int.toNat_of_nonneg r0] at this
theorem xJ:∀(l:List Nat) (a:Array Nat),((l.map fun c=>(⟨#[c]⟩:Str)).foldl (fun acc p=>acc++(Str.ofString "").cps++p.cps) a).toList=a.toList++l
 | [],a=>by simp
 | c::r,a=>by
  simp only [List.map_cons,List.foldl_cons]
  rw [xJ r]
  have e:(Str.ofString "").cps=#[]:=by decide +kernel
  rw [e]
  simp
theorem Hi:∀(l:List Nat),(Txt.join (Str.ofString "") (l.map fun c=>(⟨#[c]⟩:Str))).cps.toList=l
 | []=>by decide +kernel
 | c::r=>by
  show (((r.map fun c=>(⟨#[c]⟩:Str))).foldl (fun acc p=>acc++(Str.ofString "").cps++p.cps) #[c]).toList=c::r
  rw [xJ r]
  rfl
theorem Js:∀ys:List Nat,(ys.map ((fun x:Str=>x.length) ∘ fun c=>(⟨#[c]⟩:Str))).sum=ys.length
 | []=>rfl
 | c::r=>by
  rw [List.map_cons,List.sum_cons,Js r,List.length_cons]
  show 1 + r.length=r.length + 1
  omega
theorem K5 {l:List Nat} (h1:1≤l.length) (h2:l.length≤8) (h3:∀c∈l,97≤c∧c≤122):nameB (Txt.join (Str.ofString "") (l.map fun c=>(⟨#[c]⟩:Str)))=true:=by
 have e:=Hi l
 have e2:(Txt.join (Str.ofString "") (l.map fun c=>(⟨#[c]⟩:Str))).length=l.length:=by
  show (Txt.join (Str.ofString "") (l.map fun c=>(⟨#[c]⟩:Str))).cps.size=_
  rw [show l.length=(Txt.join (Str.ofString "") (l.map fun c=>(⟨#[c]⟩:Str))).cps.toList.length from congrArg List.length e.symm]
  simp
 unfold nameB Yz
 rw [e,e2]
 simp only [Bool.and_eq_true,decide_eq_true_eq,List.all_eq_true]
 exact ⟨⟨h1,h2⟩,h3⟩
theorem YB (n:Nat):(Builtin.Str.strSliceIndices none (some 7) 1 n).length≤7:=by
 unfold Builtin.Str.strSliceIndices sliceRange
 simp only [show (1:Int) > 0 by decide,if_true,List.length_map,List.length_range]
 split <;> (try split) <;> (try split) <;> (try simp only [Int.ediv_one]) <;> omega
theorem xK (z:Str):(Txt.slice z none (some 7)).length≤7:=by
 unfold Txt.slice
 split
 ·rename_i h
  have h2:(Builtin.Str.strSliceIndices none (some 7) 1 z.length).length=z.length:=by simpa using h
  have:=YB z.length
  omega
 ·show (((Builtin.Str.strSliceIndices none (some 7) 1 z.length).filterMap (z.cps[·]?)).toArray).size≤7
  rw [List.size_toArray]
  exact Nat.le_trans (List.length_filterMap_le _ _) (YB _)
theorem R7 {z:Str} {l u:Option Int} {c:Nat} (hc:c∈(Txt.slice z l u).cps.toList):c∈z.cps.toList:=by
 unfold Txt.slice at hc
 split at hc
 ·exact hc
 ·have hc':c∈((Builtin.Str.strSliceIndices l u 1 z.length).filterMap (z.cps[·]?)):=by simpa using hc
  obtain ⟨i,_,e⟩:=List.mem_filterMap.mp hc'
  have:=Array.mem_of_getElem? e
  simpa using this
def mD (z:Str) (k:Nat):Str:=Txt.slice z none (some 7)++(⟨#[97 + k]⟩:Str)
theorem ux (z:Str) (k:Nat):(mD z k).cps.toList=(Txt.slice z none (some 7)).cps.toList++[97 + k]:=by
 show ((Txt.slice z none (some 7)).cps++#[97 + k]).toList=_
 simp
theorem zG {z:Str} (h:nameB z=true) {k:Nat} (hk:k < 26):nameB (mD z k)=true:=by
 have hl:(mD z k).length=(Txt.slice z none (some 7)).length + 1:=by
  show ((Txt.slice z none (some 7)).cps++#[97 + k]).size=_
  rw [Array.size_append]
  rfl
 have:=xK z
 unfold nameB Yz at h ⊢
 simp only [Bool.and_eq_true,decide_eq_true_eq,List.all_eq_true] at h ⊢
 refine ⟨⟨by omega,by omega⟩,fun c hc=>?_⟩
 rw [ux] at hc
 rcases List.mem_append.mp hc with hc | hc
 ·exact h.2 c (R7 hc)
 ·rw [List.mem_singleton.mp hc]
  omega
theorem Pg {z:Str} {i j:Nat} (h:mD z i=mD z j):i=j:=by
 have e:(mD z i).cps.toList=(mD z j).cps.toList:=by rw [h]
 rw [ux,ux] at e
 have:=List.append_cancel_left e
 simp at this
 exact this
theorem Em {α:Type} [DecidableEq α]:∀{l m:List α},l.Nodup→(∀x∈l,x∈m)→l.length≤m.length
 | [],_,_,_=>Nat.zero_le _
 | a::l,m,hn,hs=>by
  have hn':=List.nodup_cons.mp hn
  have ha:=hs a List.mem_cons_self
  have ih:=Em (m:=m.erase a) hn'.2 fun x hx=>(List.mem_erase_of_ne (fun (e:x=a)=>hn'.1 (by rw [←e]; exact hx))).mpr (hs x (List.mem_cons_of_mem _ hx))
  rw [List.length_erase_of_mem ha] at ih
  have:0 < m.length:=List.length_pos_of_mem ha
  rw [List.length_cons]
  omega
theorem Ph (z:Str) {zs:List Str} (h:zs.length < 26):∃k,k < 26∧mD z k∉zs:=by
 by_cases hx:∃k,k < 26∧mD z k∉zs
 ·exact hx
 ·have all:∀x∈(List.range 26).map (mD z),x∈zs:=fun x hm=>by
   obtain ⟨k,hk,rfl⟩:=List.mem_map.mp hm
   by_cases hm2:mD z k∈zs
   ·exact hm2
   ·exact absurd ⟨k,List.mem_range.mp hk,hm2⟩ hx
  have nd:((List.range 26).map (mD z)).Nodup:=by
   rw [List.Nodup,List.pairwise_map]
   exact List.Pairwise.imp (fun {a b} hab e=>hab (Pg e)) (List.nodup_range (n:=26))
  have:=Em nd all
  simp at this
  omega
def Names (zs:List Str):Prop:=zs.Nodup∧∀z∈zs,nameB z=true
theorem Eo (z:Str) (zs:List Str):inD (.str z) (zs.map .str)=decide (z∈zs):=by
 unfold inD
 rw [Bool.eq_iff_iff,List.any_map]
 simp [List.any_eq_true,Ms,toV]
theorem xM {z:Str} (h:nameB z=true):1≤z.length∧z.length≤8∧∀c∈z.cps.toList,97≤c∧c≤122:=by
 unfold nameB Yz at h
 simp only [Bool.and_eq_true,decide_eq_true_eq,List.all_eq_true] at h
 exact ⟨h.1.1,h.1.2,h.2⟩
end L2
set_option maxHeartbeats 4000000
namespace L2
open PySem PySem.Spec PyProof.Rows PySem.W
def Asc (z:Str):Prop:=∀c∈z.cps.toList,c < 128
def Ep (n:Nat) (z:Str):Prop:=Asc z∧z.length≤n
theorem Ep.mono {n m:Nat} {z:Str} (h:Ep n z) (hm:n≤m):Ep m z:=⟨h.1,Nat.le_trans h.2 hm⟩
theorem Ep.line {n:Nat} {z:Str} (h:Ep n z) (hn:n≤100000:=by omega):z.length≤sizeLine:=Q6 (m:=100000) (Nat.le_trans h.2 hn)
theorem Ep.slice {n:Nat} {z:Str} (h:Ep n z) (l u:Option Int):Ep n (Txt.slice z l u):=by
 refine ⟨fun c hc=>?_,Nat.le_trans (Txt.slice_le z l u) h.2⟩
 unfold Txt.slice at hc
 split at hc
 ·exact h.1 c hc
 ·have hc':c∈((Builtin.Str.strSliceIndices l u 1 z.length).filterMap (z.cps[·]?)):=by simpa using hc
  obtain ⟨i,_,e⟩:=List.mem_filterMap.mp hc'
  refine h.1 c ?_
  have:=Array.mem_of_getElem? e
  simpa using this
theorem Ep.name {z:Str} (h:nameB z=true):Ep 8 z:=by
 unfold nameB Yz at h
 simp only [Bool.and_eq_true,decide_eq_true_eq,List.all_eq_true] at h
 exact ⟨fun c hc=>by have:=h.2 c hc; omega,h.1.2⟩
def dg (zs:List Str) (ps:List (Str×Str)):Prop:=∀(i:Nat) (x:Str×Str),ps[i]?=some x→zs[i]?=some x.1∧(x.2=Str.ofString ""∨∃j,j < i∧zs[j]?=some x.2)
theorem dg.snoc {zs:List Str} {ps:List (Str×Str)} {a b:Str} (h:dg zs ps) (ha:zs[ps.length]?=some a) (hb:b=Str.ofString ""∨∃j,j < ps.length∧zs[j]?=some b):dg zs (ps++[(a,b)]):=by
 intro i x e
 by_cases hi:i < ps.length
 ·rw [List.getElem?_append_left hi] at e
  exact h i x e
 ·rw [List.getElem?_append_right (by omega)] at e
  by_cases h0:i - ps.length=0
  ·rw [h0] at e
   cases e
   have:i=ps.length:=by omega
   subst this
   exact ⟨ha,hb⟩
  ·rw [List.getElem?_eq_none (by simp; omega)] at e
   cases e
def eN (ps:List (Str×Str)) (z:Str):Option Str:=(ps.find? fun p=>decide (p.1=z)).map (·.2)
inductive Over (f:Str→Option Str):Str→List Str→Prop
 | stop {z:Str}:f z=none→Over f z []
 | step {z y:Str} {r:List Str}:f z=some y→Over f y r→Over f z (z::r)
structure Hj (e B:Nat) (d:PyData):Prop where
 Wo:d.showable=true
 deep:d.depth≤e
 len:d.shown.length≤B
theorem R8 {i:Int} (h0:0≤i) (h1:i < 10 ^ 12):Hj 0 12 (.int i):=by
 refine ⟨?_,by simp [PyData.depth],?_⟩
 ·have:i.natAbs < 2 ^ 40:=by omega
  have h2:i.natAbs.log2 < 1920:=by
   by_cases h:i.natAbs=0
   ·rw [h]; decide
   ·have:=(Nat.log2_lt h).mpr this
    omega
  simpa [PyData.showable] using h2
 ·rw [PyData.shown_int]
  exact PyProof.Rows.toString_length_le h0 (by decide) h1
theorem ju {z:Str} (h:Ep 8 z):Hj 0 82 (.str z):=by
 refine ⟨by simp [PyData.showable],by simp [PyData.depth],?_⟩
 rw [PyData.shown_str]
 refine Nat.le_trans (StrLaws.reprText_len z fun c hc=>Nat.lt_of_lt_of_le (h.1 c hc) (by decide)) ?_
 have:=h.2
 omega
theorem Jt {e B:Nat}:∀{ds:List PyData},(∀d∈ds,Hj e B d)→PyData.showableAll ds=true∧PyData.depthAll ds≤e∧((PyData.shownAll ds).map (·.length)).sum≤ds.length * B
 | [],_=>⟨by simp [PyData.showableAll],by simp [PyData.depthAll],by simp [PyData.shownAll]⟩
 | d::ds,h=>by
  obtain ⟨h1,h2,h3⟩:=Jt fun x hx=>h x (List.mem_cons_of_mem _ hx)
  have g:=h d List.mem_cons_self
  refine ⟨by simp [PyData.showableAll,g.Wo,h1],?_,?_⟩
  ·simp only [PyData.depthAll]
   have:=g.deep
   omega
  ·simp only [PyData.shownAll,List.map_cons,List.sum_cons,List.length_cons]
   have:=g.len
   rw [Nat.succ_mul]
   omega
theorem iY {e B C:Nat} {ds:List PyData} (h:∀d∈ds,Hj e B d) (hc:ds.length≤C):Hj (e + 1) (C * (B + 2) + 3) (.tuple ds):=by
 obtain ⟨h1,h2,h3⟩:=Jt h
 refine ⟨by simpa [PyData.showable] using h1,by simp [PyData.depth]; omega,?_⟩
 simp only [PyData.shown]
 have:=tupleText_len_le (PyData.shownAll ds)
 have hl:(PyData.shownAll ds).length=ds.length:=PyData.shownAll_length ds
 rw [hl] at this
 have hm:ds.length * B≤C * B:=Nat.mul_le_mul_right B hc
 rw [Nat.mul_add]
 omega
theorem Hj.mono {e e' B B':Nat} {d:PyData} (h:Hj e B d) (he:e≤e') (hB:B≤B'):Hj e' B' d:=⟨h.Wo,Nat.le_trans h.deep he,Nat.le_trans h.len hB⟩
abbrev mY:=Int×Str×Int×Str×Int×Int
abbrev qQ:=Int×Str×Str×Str×Int×Int×Int
abbrev pM:=Int×Str
abbrev eO:=Str×Int×List pM
def bh (r:mY):PyData:=.tuple [.int r.1,.str r.2.1,.int r.2.2.1,.str r.2.2.2.1,.int r.2.2.2.2.1,.int r.2.2.2.2.2]
def jN (r:qQ):PyData:=.tuple [.int r.1,.str r.2.1,.str r.2.2.1,.str r.2.2.2.1,.int r.2.2.2.2.1,.int r.2.2.2.2.2.1,.int r.2.2.2.2.2.2]
def lg (s:pM):PyData:=.tuple [.int s.1,.str s.2]
def dU (ss:List pM):PyData:=.tuple (ss.map lg)
def jE (r:eO):PyData:=.tuple [.str r.1,.int r.2.1,dU r.2.2]
def bD (p:Str×Str):PyData:=.tuple [.str p.1,.str p.2]
structure jl where
 ps:List (Str×Str)
 bB:List mY
 leaves:List qQ
 rules:List eO
def bG (h:jl):PyData:=.tuple [.tuple (h.ps.map bD),.tuple (h.bB.map bh),.tuple (h.leaves.map jN),.tuple (h.rules.map jE)]
structure Bt (zs own:List Str) (r:mY):Prop where
 num:0≤r.1∧r.1≤2000
 who:r.2.1∈zs
 rank:1≤r.2.2.1∧r.2.2.1≤9
 part:r.2.2.2.1∈own
 days:0≤r.2.2.2.2.1∧r.2.2.2.2.1≤r.2.2.2.2.2∧r.2.2.2.2.2≤99999
structure vI (zs own:List Str) (r:qQ):Prop where
 num:0≤r.1∧r.1≤2000
 giver:r.2.1∈zs
 taker:r.2.2.1∈zs
 ne:r.2.1≠r.2.2.1
 part:r.2.2.2.1∈own
 days:0≤r.2.2.2.2.1∧r.2.2.2.2.1≤r.2.2.2.2.2.1∧r.2.2.2.2.2.1≤99999
 most:0≤r.2.2.2.2.2.2∧r.2.2.2.2.2.2≤1000000000
def Hl (own:List Str) (s:pM):Prop:=1≤s.1∧s.1≤9∧(s.2=Str.ofString ""∨s.2∈own)
structure nZ (own:List Str) (r:eO):Prop where
 part:r.1∈own
 sum:0≤r.2.1∧r.2.1≤1000000000
 many:r.2.2.length≤6
 Um:∀s∈r.2.2,Hl own s
structure mZ (zs:List Str) (ps:List (Str×Str)) (h:jl):Prop where
 parts:h.ps.Perm ps
 p8:ps.length≤8
 r20:h.bB.length≤20
 l16:h.leaves.length≤16
 Wq:h.rules.length≤10
 bB:∀r∈h.bB,Bt zs (ps.map (·.1)) r
 rup:(h.bB.map (·.1)).Pairwise (· < ·)
 leaves:∀r∈h.leaves,vI zs (ps.map (·.1)) r
 lup:(h.leaves.map (·.1)).Pairwise (· < ·)
 rules:∀r∈h.rules,nZ (ps.map (·.1)) r
 unlike:(h.rules.map fun r=>(r.1,r.2.1)).Nodup
theorem Uo:Ep 8 (Str.ofString ""):=by
 have e:(Str.ofString "").cps.toList=[]:=by decide +kernel
 refine ⟨fun c hc=>?_,by decide +kernel⟩
 rw [e] at hc
 exact absurd hc (by simp)
theorem K6 {zs:List Str} {ps:List (Str×Str)} {h:jl} (hz:∀z∈zs,nameB z=true) (hp:dg zs ps) (g:mZ zs ps h):Hj 5 200000 (bG h):=by
 have sz:∀z∈zs,Ep 8 z:=fun z hm=>Ep.name (hz z hm)
 have pz:∀x∈ps,Ep 8 x.1∧Ep 8 x.2:=fun x hx=>by
  obtain ⟨i,hi,rfl⟩:=List.getElem_of_mem hx
  obtain ⟨e1,e2⟩:=hp i ps[i] (List.getElem?_eq_getElem hi)
  refine ⟨sz _ (List.mem_of_getElem? e1),?_⟩
  rcases e2 with e2 | ⟨j,_,e2⟩
  ·rw [e2]
   exact Uo
  ·exact sz _ (List.mem_of_getElem? e2)
 have oz:∀z∈ps.map (·.1),Ep 8 z:=fun z hm=>by
  obtain ⟨x,hx,rfl⟩:=List.mem_map.mp hm
  exact (pz x hx).1
 have int':∀{i:Int},0≤i→i < 10 ^ 12→Hj 0 82 (.int i):=fun a b=>(R8 a b).mono (Nat.le_refl _) (by decide)
 have s1:Hj 2 (8 * (171 + 2) + 3) (.tuple (h.ps.map bD)):=by
  refine iY (e:=1) (B:=171) (fun d hd=>?_) (by rw [List.length_map,g.parts.length_eq]; exact g.p8)
  obtain ⟨x,hx,rfl⟩:=List.mem_map.mp hd
  have:=pz x (g.parts.mem_iff.mp hx)
  refine iY (e:=0) (B:=82) (C:=2) (fun d hd=>?_) (Nat.le_refl _)
  simp only [List.mem_cons,List.not_mem_nil,or_false] at hd
  rcases hd with rfl | rfl
  ·exact ju this.1
  ·exact ju this.2
 have s2:Hj 2 (20 * (507 + 2) + 3) (.tuple (h.bB.map bh)):=by
  refine iY (e:=1) (B:=507) (fun d hd=>?_) (by rw [List.length_map]; exact g.r20)
  obtain ⟨x,hx,rfl⟩:=List.mem_map.mp hd
  have k:=g.bB x hx
  refine iY (e:=0) (B:=82) (C:=6) (fun d hd=>?_) (Nat.le_refl _)
  have k1:=k.num
  have k3:=k.rank
  have k5:=k.days
  simp only [List.mem_cons,List.not_mem_nil,or_false] at hd
  rcases hd with rfl | rfl | rfl | rfl | rfl | rfl
  ·exact int' (by omega) (by omega)
  ·exact ju (sz _ k.who)
  ·exact int' (by omega) (by omega)
  ·exact ju (oz _ k.part)
  ·exact int' (by omega) (by omega)
  ·exact int' (by omega) (by omega)
 have s3:Hj 2 (16 * (591 + 2) + 3) (.tuple (h.leaves.map jN)):=by
  refine iY (e:=1) (B:=591) (fun d hd=>?_) (by rw [List.length_map]; exact g.l16)
  obtain ⟨x,hx,rfl⟩:=List.mem_map.mp hd
  have k:=g.leaves x hx
  refine iY (e:=0) (B:=82) (C:=7) (fun d hd=>?_) (Nat.le_refl _)
  have k1:=k.num
  have k3:=k.most
  have k5:=k.days
  simp only [List.mem_cons,List.not_mem_nil,or_false] at hd
  rcases hd with rfl | rfl | rfl | rfl | rfl | rfl | rfl
  ·exact int' (by omega) (by omega)
  ·exact ju (sz _ k.giver)
  ·exact ju (sz _ k.taker)
  ·exact ju (oz _ k.part)
  ·exact int' (by omega) (by omega)
  ·exact int' (by omega) (by omega)
  ·exact int' (by omega) (by omega)
 have s4:Hj 4 (10 * (3132 + 2) + 3) (.tuple (h.rules.map jE)):=by
  refine iY (e:=3) (B:=3132) (fun d hd=>?_) (by rw [List.length_map]; exact g.Wq)
  obtain ⟨x,hx,rfl⟩:=List.mem_map.mp hd
  have k:=g.rules x hx
  have k2:=k.sum
  have st:Hj 2 (6 * (171 + 2) + 3) (dU x.2.2):=by
   refine iY (e:=1) (B:=171) (fun d hd=>?_) (by rw [List.length_map]; exact k.many)
   obtain ⟨y,hy,rfl⟩:=List.mem_map.mp hd
   obtain ⟨y1,y2,y3⟩:=k.Um y hy
   refine iY (e:=0) (B:=82) (C:=2) (fun d hd=>?_) (Nat.le_refl _)
   simp only [List.mem_cons,List.not_mem_nil,or_false] at hd
   rcases hd with rfl | rfl
   ·exact int' (by omega) (by omega)
   ·rcases y3 with y3 | y3
    ·rw [y3]
     exact ju Uo
    ·exact ju (oz _ y3)
  refine (iY (e:=2) (B:=1041) (C:=3) (ds:=[.str x.1,.int x.2.1,dU x.2.2]) (fun d hd=>?_) (Nat.le_refl _)).mono (by decide) (by decide)
  simp only [List.mem_cons,List.not_mem_nil,or_false] at hd
  rcases hd with rfl | rfl | rfl
  ·exact (ju (oz _ k.part)).mono (by decide) (by decide)
  ·exact (int' (by omega) (by omega)).mono (by decide) (by decide)
  ·exact st.mono (by decide) (by decide)
 refine (iY (e:=4) (B:=32000) (C:=4) (ds:=[.tuple (h.ps.map bD),.tuple (h.bB.map bh),.tuple (h.leaves.map jN),.tuple (h.rules.map jE)]) (fun d hd=>?_) (Nat.le_refl _)).mono (by decide) (by decide)
 simp only [List.mem_cons,List.not_mem_nil,or_false] at hd
 rcases hd with rfl | rfl | rfl | rfl
 ·exact s1.mono (by decide) (by decide)
 ·exact s2.mono (by decide) (by decide)
 ·exact s3.mono (by decide) (by decide)
 ·exact s4.mono (by decide) (by decide)
theorem xN {z:Str} (h:nameB z=true):PyData.strOk z=true:=by
 unfold PyData.strOk
 rw [Array.all_eq_true']
 intro c hc
 have:=(xM h).2.2 c (by simpa using hc)
 exact decide_eq_true (by omega)
theorem xO:∀{zs:List Str},(∀z∈zs,PyData.strOk z=true)→PyData.canLayAll0 (zs.map PyData.str)=true∧PyData.depthAll (zs.map PyData.str)=0∧j4 (zs.map PyData.str)=true
 | [],_=>⟨by simp [PyData.canLayAll0],by simp [PyData.depthAll],rfl⟩
 | z::zs,h=>by
  obtain ⟨h1,h2,h3⟩:=xO fun x hx=>h x (List.mem_cons_of_mem _ hx)
  refine ⟨by simp [PyData.canLayAll0,PyData.canLay0,h z List.mem_cons_self]; simpa using h1,by simp only [List.map_cons,PyData.depthAll,PyData.depth,h2]; rfl,?_⟩
  show (true&&j4 (zs.map PyData.str))=true
  rw [h3]
  rfl
theorem Er {zs:List Str} (h:∀z∈zs,PyData.strOk z=true):PySem.SeqAt.shaped (.list (zs.map PyData.str))=true:=by
 obtain ⟨h1,h2,_⟩:=xO h
 unfold PySem.SeqAt.shaped
 simp only [PyData.canLay0,h1,PyData.depth,h2]
 decide
theorem xP {en:En} {i b:Nat} {C:Ce} (h:en[i]?=some (some (.ce b))):aH i en C=some (.ce b,en,C):=by
 unfold aH
 simp only [h]
theorem bv {en:En} {i:Nat} {C:Ce} {x:Vl} {d:PyData} (h:en[i]?=some (some x)) (e:dat x=some d):au i en C=some (d,en,C):=by
 unfold au
 simp only [h,e,Option.map_some]
theorem fK {op:List PyData→Option Vl} {f:FB} {env e1:En} {C C1:Ce} {d:PyData} {r:Vl} (h:f env C=some (d,e1,C1)) (h2:op [d]=some r):bC op (aP f bF) env C=some (r,rst r env e1,C1):=by
 unfold bC aP bF
 simp only [h,h2]
theorem uN {f g:FE} {env e1 e2:En} {C C1 C2:Ce} {r s:Vl} (h:f env C=some (r,e1,C1)) (h2:g e1 C1=some (s,e2,C2)):aa f (aa g aG) env C=some ([still r,still s],e2,C2):=by
 simp only [aa,aG,h,h2]
theorem Es {f g:FE} {env e1 e2:En} {C C1 C2:Ce} {r s:Vl} (h:f env C=some (r,e1,C1)) (h2:g e1 C1=some (s,e2,C2)):bT f (bT g aG) env C=some ([r,s],e2,C2):=by
 simp only [bT,aG,h,h2]
theorem dh {f:FE} {g:FA} {env e1 e2:En} {C C1 C2:Ce} {r:Vl} {xs:List Vl} (h:f env C=some (r,e1,C1)) (h2:g e1 C1=some (xs,e2,C2)):aa f g env C=some (still r::xs,e2,C2):=by
 unfold aa
 simp only [h,h2]
theorem Ju {f:FE} {g:FA} {env e1 e2:En} {C C1 C2:Ce} {r:Vl} {xs:List Vl} (h:f env C=some (r,e1,C1)) (h2:g e1 C1=some (xs,e2,C2)):bT f g env C=some (r::xs,e2,C2):=by
 unfold bT
 simp only [h,h2]
theorem qR {g:FA} {env e1:En} {C C1:Ce} {xs:List Vl} {ds:List PyData} (h:g env C=some (xs,e1,C1)) (h2:dG xs=some ds) (h3:ds.length≤1000000):fQ g env C=some (.im (.tuple ds),e1,C1):=by
 unfold fQ
 simp only [h,h2]
 exact if_pos h3
theorem Bu {g:FA} {env e1:En} {C C1:Ce} {xs:List Vl} {ds:List PyData} (h:g env C=some (xs,e1,C1)) (h2:dG xs=some ds) (h3:ds.length≤1000000):bH g env C=some (.ow (.list ds),e1,C1):=by
 unfold bH
 simp only [h,h2]
 exact if_pos h3
theorem uy {is:List Nat} {g:FA} {env e1:En} {C C1:Ce} {xs:List Vl} (h:g env C=some (xs,e1,C1)) (h2:is.length=xs.length) (h3:xs.length≤1000000):fX is g env C=some (.nx,setM is xs e1,C1):=by
 unfold fX
 simp only [h]
 exact if_pos ⟨h2,h3⟩
theorem Pj {i:Nat} {fk:FB} {fe:FE} {env e1 e2:En} {C C1 C2:Ce} {r:Vl} {d dk:PyData} {kvs kvs':List (PyData×PyData)} (h1:fe env C=some (r,e1,C1)) (h2:still r=.im d) (h3:fk e1 C1=some (dk,e2,C2)) (h4:zu e1[i]?=true) (h5:e2[i]?=some (some (.ow (.dict kvs)))) (h6:putD kvs dk d=some kvs') (h7:kvs.length < 1000000):
  yM i fk fe env C=some (.nx,e2.set i (some (.ow (.dict kvs'))),C2):=by
 unfold yM
 simp only [h1,h2,h3,h4,h5,h6,if_true]
 exact if_pos h7
theorem YC (a b:Int):∃lo hi:Int,dN [.list [.int a,.int b]]=some (.ow (.list [.int lo,.int hi]))∧lo≤hi∧(lo=a∨lo=b)∧(hi=a∨hi=b):=by
 by_cases h:b < a
 ·refine ⟨b,a,?_,by omega,.inr rfl,.inl rfl⟩
  have:fV ltI [a,b]=[b,a]:=by simp [fV,ins,ltI,h]
  simp [dN,kW,xq,intsOf,this]
 ·refine ⟨a,b,?_,by omega,.inl rfl,.inr rfl⟩
  have:fV ltI [a,b]=[a,b]:=by simp [fV,ins,ltI,h]
  simp [dN,kW,xq,intsOf,this]
theorem sJ {α β:Type} {f:α→β}:∀{l:List α} {m:List β},m.Perm (l.map f)→∃l':List α,l'.Perm l∧m=l'.map f:=fun {l m} p=>by
 generalize e:l.map f=k at p
 induction p generalizing l with
 | nil=>
  cases l with
  | nil=>exact ⟨[],List.Perm.refl _,rfl⟩
  | cons _ _=>cases e
 | @cons x m k _ ih=>
  cases l with
  | nil=>cases e
  | cons a l=>
   rw [List.map_cons,List.cons.injEq] at e
   obtain ⟨l',p',rfl⟩:=ih e.2
   exact ⟨a::l',p'.cons a,by rw [List.map_cons,e.1]⟩
 | swap x y m=>
  cases l with
  | nil=>cases e
  | cons a l=>
   cases l with
   | nil=>cases e
   | cons b l=>
    rw [List.map_cons,List.map_cons,List.cons.injEq,List.cons.injEq] at e
    obtain ⟨e1,e2,e3⟩:=e
    exact ⟨b::a::l,List.Perm.swap a b l,by rw [List.map_cons,List.map_cons,e1,e2,e3]⟩
 | trans _ _ ih1 ih2=>
  obtain ⟨l2,p2,e2⟩:=ih2 e
  obtain ⟨l1,p1,e1⟩:=ih1 e2.symm
  exact ⟨l1,p1.trans p2,e1⟩
end L2
set_option maxHeartbeats 4000000
namespace L2
open PySem PySem.Spec PyProof.Rows PySem.W
theorem Ho (x:Str×Str) (ps:List (Str×Str)) (z:Str):eN (x::ps) z=if x.1=z then some x.2 else eN ps z:=by
 unfold eN
 rw [List.find?_cons]
 by_cases h:x.1=z
 ·rw [decide_eq_true h,if_pos h]
  rfl
 ·rw [decide_eq_false h,if_neg h]
theorem cM:∀{ps:List (Str×Str)} {z w:Str},(ps.map (·.1)).Nodup→(eN ps z=some w ↔ (z,w)∈ps)
 | [],z,w,_=>by simp [eN]
 | x::ps,z,w,h=>by
  rw [List.map_cons,List.nodup_cons] at h
  rw [Ho]
  by_cases hz:x.1=z
  ·rw [if_pos hz,List.mem_cons]
   constructor
   ·intro e
    left
    rw [←hz,←Option.some.inj e]
   ·rintro (e | e)
    ·rw [←e]
    ·exact absurd (List.mem_map.mpr ⟨(z,w),e,hz.symm⟩) h.1
  ·rw [if_neg hz,cM h.2,List.mem_cons]
   constructor
   ·exact .inr
   ·rintro (e | e)
    ·exact absurd (by rw [←e]) hz
    ·exact e
theorem Hq {ps ps':List (Str×Str)} (p:ps'.Perm ps) (h:(ps.map (·.1)).Nodup) (z:Str):eN ps' z=eN ps z:=by
 have h':(ps'.map (·.1)).Nodup:=(p.map (·.1)).nodup_iff.mpr h
 cases e:eN ps z with
 | some w=>exact (cM h').mpr (p.mem_iff.mpr ((cM h).mp e))
 | none=>
  cases e':eN ps' z with
  | none=>rfl
  | some w=>
   have:=(cM h).mpr (p.mem_iff.mp ((cM h').mp e'))
   rw [e] at this
   cases this
theorem xQ {zs:List Str} {ps:List (Str×Str)} (h:dg zs ps):ps.map (·.1)=zs.take ps.length:=by
 apply List.ext_getElem?
 intro i
 rw [List.getElem?_map,List.getElem?_take]
 cases e:ps[i]? with
 | none=>
  rw [if_neg (by have:=List.getElem?_eq_none_iff.mp e; omega)]
  rfl
 | some x=>
  rw [if_pos (List.getElem?_eq_some_iff.mp e).1,(h i x e).1]
  rfl
theorem gq {zs:List Str} {ps:List (Str×Str)} (hN:Names zs) (h:dg zs ps):(ps.map (·.1)).Nodup:=by
 rw [xQ h]
 exact hN.1.sublist (List.take_sublist _ _)
theorem sO:nameB (Str.ofString "")=false:=by decide +kernel
theorem xR {zs:List Str} {ps:List (Str×Str)} (hN:Names zs) (h:dg zs ps) {z:Str} (hz:z∈ps.map (·.1)):nameB z=true:=by
 rw [xQ h] at hz
 exact hN.2 z (List.mem_of_mem_take hz)
theorem qT {zs:List Str} {ps:List (Str×Str)} (hN:Names zs) (h:dg zs ps):eN ps (Str.ofString "")=none:=by
 cases e:eN ps (Str.ofString "") with
 | none=>rfl
 | some w=>
  have:=(cM (gq hN h)).mp e
  have:=xR hN h (List.mem_map.mpr ⟨_,this,rfl⟩)
  rw [sO] at this
  cases this
def R9 (f:Str→Option Str):Nat→Str→List Str
 | 0,_=>[]
 | n + 1,z=>match f z with
  | none=>[]
  | some y=>z::R9 f n y
def up (ps:List (Str×Str)) (z:Str):List Str:=R9 (eN ps) (ps.length + 1) z
theorem sS {f:Str→Option Str} {z:Str} (h:f z=none):∀n,R9 f n z=[]
 | 0=>rfl
 | n + 1=>by unfold R9; rw [h]
theorem Et {f:Str→Option Str} {z y:Str} (h:f z=some y) (n:Nat):R9 f (n + 1) z=z::R9 f n y:=by
 rw [R9,h]
theorem Jv {f:Str→Option Str}:∀n z,(R9 f n z).length≤n
 | 0,_=>Nat.le_refl 0
 | n + 1,z=>by
  cases h:f z with
  | none=>rw [sS h]; exact Nat.zero_le _
  | some y=>
   rw [Et h,List.length_cons]
   exact Nat.succ_le_succ (Jv n y)
theorem Jw {zs:List Str} {ps:List (Str×Str)} (hN:Names zs) (hP:dg zs ps):∀(n i:Nat),i < n→∀x,ps[i]?=some x→Over (eN ps) x.1 (R9 (eN ps) n x.1)
 | 0,_,h,_,_=>absurd h (Nat.not_lt_zero _)
 | n + 1,i,h,x,hx=>by
  have e:eN ps x.1=some x.2:=(cM (gq hN hP)).mpr (List.mem_of_getElem? hx)
  rw [Et e]
  refine .step e ?_
  rcases (hP i x hx).2 with h2 | ⟨j,hj,h2⟩
  ·rw [h2,sS (qT hN hP)]
   exact .stop (qT hN hP)
  ·have hi:=(List.getElem?_eq_some_iff.mp hx).1
   have hjl:j < ps.length:=by omega
   have g:=hP j ps[j] (List.getElem?_eq_getElem hjl)
   have e2:ps[j].1=x.2:=by
    have:=g.1
    rw [h2] at this
    exact (Option.some.inj this).symm
   rw [←e2]
   exact Jw hN hP n j (by omega) ps[j] (List.getElem?_eq_getElem hjl)
theorem Bv {zs:List Str} {ps:List (Str×Str)} (hN:Names zs) (hP:dg zs ps) (z:Str):Over (eN ps) z (up ps z):=by
 unfold up
 cases e:eN ps z with
 | none=>
  rw [sS e]
  exact .stop e
 | some w=>
  obtain ⟨i,hi,hx⟩:=List.getElem_of_mem ((cM (gq hN hP)).mp e)
  have:=Jw hN hP (ps.length + 1) i (by omega) _ (List.getElem?_eq_getElem hi)
  rw [hx] at this
  exact this
theorem Over.det {f:Str→Option Str}:∀{z:Str} {a b:List Str},Over f z a→Over f z b→a=b
 | _,_,_,.stop _,.stop _=>rfl
 | _,_,_,.stop h,.step g _=>by rw [h] at g; cases g
 | _,_,_,.step h _,.stop g=>by rw [h] at g; cases g
 | _,_,_,.step h r,.step g s=>by
  rw [h] at g
  cases g
  rw [Over.det r s]
theorem Jx {zs:List Str} {ps:List (Str×Str)} (hN:Names zs) (hP:dg zs ps) {z w:Str} (h:eN ps z=some w):up ps z=z::up ps w:=(Bv hN hP z).det (.step h (Bv hN hP w))
theorem Jy {ps:List (Str×Str)} {z:Str} (h:eN ps z=none):up ps z=[]:=sS h _
theorem Pk (ps:List (Str×Str)) (z:Str):(up ps z).length≤ps.length + 1:=Jv _ _
def iu (l:List (Str×PyData)):List (PyData×PyData):=l.map fun p=>(.str p.1,p.2)
theorem sU:∀l:List (Str×PyData),cV fP (iu l)=some (l.map fun p=>.inr p.1)
 | []=>rfl
 | p::l=>by
  rw [show iu (p::l)=(.str p.1,p.2)::iu l from rfl]
  unfold cV
  rw [sU l]
  simp only [fP]
  rfl
theorem Bw (x z:Str):(fP (.str x)=some (.inr z)) ↔ x=z:=by
 simp [fP]
theorem zH (z:Str):∀l:List (Str×PyData),j5 fP (.inr z) (iu l)=(l.find? fun p=>decide (p.1=z)).map (·.2)
 | []=>rfl
 | p::l=>by
  show (if fP (.str p.1)=some (.inr z) then some p.2 else j5 fP (.inr z) (iu l))=_
  rw [List.find?_cons]
  by_cases h:p.1=z
  ·rw [if_pos ((Bw _ _).mpr h),decide_eq_true h]
   rfl
  ·rw [if_neg (fun e=>h ((Bw _ _).mp e)),decide_eq_false h,zH z l]
theorem uz (l:List (Str×PyData)) (z:Str):lH (iu l) (.str z)=some ((l.find? fun p=>decide (p.1=z)).map (·.2)):=by
 show (if (cV fP (iu l)).isSome then some (j5 fP (.inr z) (iu l)) else none)=_
 rw [sU,zH]
 rfl
theorem Eu {l:List (Str×PyData)} {z:Str} {d:PyData} (h:z∉l.map (·.1)):nP fP (.inr z) (.str z) d (iu l)=iu (l++[(z,d)]):=by
 unfold nP
 rw [if_neg,iu,iu,List.map_append]
 ·rfl
 ·rw [Bool.not_eq_true,List.any_eq_false]
  intro p hp
  obtain ⟨q,hq,rfl⟩:=List.mem_map.mp hp
  have:¬(fP (.str q.1)=some (.inr z)):=fun e=>h (List.mem_map.mpr ⟨q,hq,(Bw _ _).mp e⟩)
  simpa using this
theorem Pn {l:List (Str×PyData)} {z:Str} {d:PyData} (h:z∉l.map (·.1)):putD (iu l) (.str z) d=some (iu (l++[(z,d)])):=by
 show (if (cV fP (iu l)).isSome then some (nP fP (.inr z) (.str z) d (iu l)) else none)=_
 rw [sU,Eu h]
 rfl
theorem xT {α:Type} (ps:List (Str×Str)) (g:Str×Str→α) (z:Str):((ps.map fun p=>(p.1,g p)).find? fun p=>decide (p.1=z)).map (·.2)=(ps.find? fun p=>decide (p.1=z)).map g:=by
 rw [List.find?_map,Option.map_map]
 rfl
theorem jm {α:Type} {T:rA} {ft:FT} {fe:FE} {fs:En} {C:Ce} (D:α→PyData) (p:α→Bool) (g:α→PyData):∀{l:List α},(∀a∈l,∃ts,Ue T (D a)=some ts∧ft (qp ts++fs) C=some (p a,C)∧(p a=true→∃x e,fe (qp ts++fs) C=some (x,e,C)∧still x=.im (g a)))→
  gm T ft fe fs (l.map D) C=some ((l.filter p).map g,C)
 | [],_=>rfl
 | d::r,h=>by
  obtain ⟨ts,h1,h2,h3⟩:=h d List.mem_cons_self
  have ih:=jm D p g (l:=r) fun d m=>h d (List.mem_cons_of_mem _ m)
  rw [List.map_cons]
  unfold gm
  simp only [h1]
  rw [h2]
  cases hp:p d with
  | true=>
   obtain ⟨x,e,h4,h5⟩:=h3 hp
   simp only [h4,h5,ih,List.filter_cons,hp,if_true,List.map_cons]
  | false=>
   simp only [ih,List.filter_cons,hp]
   rfl
theorem n6 {l:List Int}:∀{a b:Int},l.foldl max a≤b ↔ a≤b∧∀x∈l,x≤b:=by
 induction l with
 | nil=>intro a b; simp
 | cons y l ih=>
  intro a b
  rw [List.foldl_cons,ih]
  constructor
  ·rintro ⟨h1,h2⟩
   refine ⟨by omega,fun x hx=>?_⟩
   rcases List.mem_cons.mp hx with rfl | hx
   ·omega
   ·exact h2 x hx
  ·rintro ⟨h1,h2⟩
   have:=h2 y List.mem_cons_self
   exact ⟨by omega,fun x hx=>h2 x (List.mem_cons_of_mem _ hx)⟩
theorem xU {l m:List Int} (a:Int) (h:∀x∈l,x∈m):l.foldl max a≤m.foldl max a:=by
 have:=(n6 (l:=m) (a:=a) (b:=m.foldl max a)).mp (Int.le_refl _)
 exact n6.mpr ⟨this.1,fun x hx=>this.2 x (h x hx)⟩
theorem K7 {l:List Int} (h:∀x∈l,0≤x):maxD 0 l=l.foldl max 0:=by
 cases l with
 | nil=>rfl
 | cons x l=>
  show l.foldl max x=l.foldl max (max 0 x)
  have:=h x List.mem_cons_self
  rw [show max 0 x=x by omega]
def uO (who:Str) (os:List Str) (day:Int) (r:mY):Bool:=decide (r.2.1=who)&&(decide (r.2.2.2.1∈os)&&(decide (r.2.2.2.2.1≤day)&&decide (day≤r.2.2.2.2.2)))
def gB (rk:List mY) (who:Str) (os:List Str) (day:Int):Int:=((rk.filter (uO who os day)).map (·.2.2.1)).foldl max 0
theorem Ew {rk:List mY} {who:Str} {os os':List Str} {day:Int} (h:∀z∈os,z∈os'):gB rk who os day≤gB rk who os' day:=by
 refine xU 0 fun x hx=>?_
 obtain ⟨r,hr,rfl⟩:=List.mem_map.mp hx
 obtain ⟨h1,h2⟩:=List.mem_filter.mp hr
 refine List.mem_map.mpr ⟨r,List.mem_filter.mpr ⟨h1,?_⟩,rfl⟩
 unfold uO at h2 ⊢
 simp only [Bool.and_eq_true,decide_eq_true_eq] at h2 ⊢
 exact ⟨h2.1,h _ h2.2.1,h2.2.2⟩
end L2
set_option maxHeartbeats 4000000
namespace pN
open PySem L2
def top (i:Nat):Stmt:=PySem.Challenge.pw_rankseals_k05_ranks_held.main.body.getD i (.Pass ⟨0,0,0,0⟩)
abbrev fL:Stmt:=top 1
theorem jw:dw (["house","part","outer","over"]:List Str) (["house","part"]:List Str) (aL fL):=⟨rfl,rfl,rfl,by decide +kernel,rfl,by decide +kernel,by decide +kernel⟩
abbrev jn:Stmt:=top 3
theorem qU:dw (["house","person","part","day","over","held"]:List Str) (["house","person","part","day"]:List Str) (aL jn):=⟨rfl,rfl,rfl,by decide +kernel,rfl,by decide +kernel,by decide +kernel⟩
abbrev uA:Stmt:=top 5
theorem By:dw (["_law_script","_law_k","_law_cell"]:List Str) (["_law_script","_law_k"]:List Str) (aL uA):=⟨rfl,rfl,rfl,by decide +kernel,rfl,by decide +kernel,by decide +kernel⟩
abbrev p7:Stmt:=top 6
theorem xV:dw (["_law_box_here","_law_many_here","_law_found","_law_once"]:List Str) (["_law_box_here","_law_many_here"]:List Str) (aL p7):=⟨rfl,rfl,rfl,by decide +kernel,rfl,by decide +kernel,by decide +kernel⟩
abbrev iZ:Stmt:=top 7
theorem jo:dw (["_law_box_here","_law_many_here","_law_letters","_law_found","_law_k","_law_size","_law_name"]:List Str) (["_law_box_here","_law_many_here"]:List Str) (aL iZ):=⟨rfl,rfl,rfl,by decide +kernel,rfl,by decide +kernel,by decide +kernel⟩
abbrev uB:Stmt:=top 8
theorem Jz:dw (["_law_box_here","_law_way"]:List Str) (["_law_box_here"]:List Str) (aL uB):=⟨rfl,rfl,rfl,by decide +kernel,rfl,by decide +kernel,by decide +kernel⟩
abbrev uC:Stmt:=top 9
theorem Sd:dw (["_law_box_here"]:List Str) (["_law_box_here"]:List Str) (aL uC):=⟨rfl,rfl,rfl,by decide +kernel,rfl,by decide +kernel,by decide +kernel⟩
abbrev jq:Stmt:=top 10
theorem jF:dw (["_law_box_here","_law_many_here","_law_found","_law_next_one","_law_k"]:List Str) (["_law_box_here","_law_many_here"]:List Str) (aL jq):=⟨rfl,rfl,rfl,by decide +kernel,rfl,by decide +kernel,by decide +kernel⟩
abbrev qb:Stmt:=top 11
theorem Pq:dw (["_law_box_here","_law_most"]:List Str) (["_law_box_here","_law_most"]:List Str) (aL qb):=⟨rfl,rfl,rfl,by decide +kernel,rfl,by decide +kernel,by decide +kernel⟩
abbrev lq:Stmt:=top 12
theorem uD:dw (["_law_box_here","_law_names_here","_law_rows","_law_k"]:List Str) (["_law_box_here","_law_names_here"]:List Str) (aL lq):=⟨rfl,rfl,rfl,by decide +kernel,rfl,by decide +kernel,by decide +kernel⟩
abbrev jG:Stmt:=top 13
theorem cA:dw (["_law_box_here","_law_names_here","_law_parts_here","_law_own","_law_ranks","_law_leaves","_law_rules","_law_number","_law_days_here","_law_who","_law_where","_law_at","_law_taker","_law_k","_law_key","_law_seats","_law_j","_law_part","_law_rows"]:List Str) (["_law_box_here","_law_names_here"]:List Str) (aL jG):=⟨rfl,rfl,rfl,by decide +kernel,rfl,by decide +kernel,by decide +kernel⟩
abbrev lO:Stmt:=top 14
theorem Pr:dw (["_law_found","_law_due"]:List Str) (["_law_found","_law_due"]:List Str) (aL lO):=⟨rfl,rfl,rfl,by decide +kernel,rfl,by decide +kernel,by decide +kernel⟩
abbrev qe:Stmt:=top 15
theorem sV:dw (["_law_parts_here","_law_found","_law_part","_law_within"]:List Str) (["_law_parts_here"]:List Str) (aL qe):=⟨rfl,rfl,rfl,by decide +kernel,rfl,by decide +kernel,by decide +kernel⟩
abbrev oh:Stmt:=top 16
theorem sW:dw (["_law_box_here","_law_house_here","_law_days_here","_law_row"]:List Str) (["_law_box_here","_law_house_here"]:List Str) (aL oh):=⟨rfl,rfl,rfl,by decide +kernel,rfl,by decide +kernel,by decide +kernel⟩
abbrev oR:Stmt:=top 17
theorem gr:dw (["_law_script","_law_k","_law_box_here","_law_names_here","_law_parts_here","_law_house_here","_law_kept","_law_over_here","_law_people","_law_day_here","_law_person","_law_held","_law_part","_law_due","_law_within","_law_above"]:List Str) (["_law_script"]:List Str) (aL oR):=⟨rfl,rfl,rfl,by decide +kernel,rfl,by decide +kernel,by decide +kernel⟩
structure Txt (K:PySem.W.Frag) (mg:Str→Option Value):Prop where
 zJ:mg "abs"=none
 Ex:mg "all"=none
 qW:mg "bool"=none
 zK:mg "int"=none
 bN:mg "isinstance"=none
 m7:mg "len"=none
 pO:mg "list"=none
 xW:mg "max"=none
 Ey:mg "min"=none
 jb:mg "range"=none
 uE:mg "repr"=none
 zL:mg "set"=none
 gP:mg "sorted"=none
 zM:mg "str"=none
 gR:mg "tuple"=none
 Ez:mg "zip"=none
@[reducible] def gU:FT:=(b7 (aC GR (au 1) (au 2)))
@[reducible] def jO:FS:=(bw (fY 3 (aH 1)) (bQ 1 (aC aR (au 2) (au 1))))
@[reducible] def gW:FE:=(aH 0)
@[reducible] def gY:FE:=(aH 1)
@[reducible] def ou:FS:=(bw (bQ 2 (W0 (Qo (ao (aC aR (au 0) (ao (az (.int 0)))))) (.many 2) gj gW gY [])) (bw (bQ 3 (bH aG)) (bw (fWh gU jO) (cX 3))))
def gC:FN:=fN 2 4 ou
@[reducible] def jU:FT:=(cN (b7 (aC nH (au 1) (au 6))) (cN (b7 (aC GR (au 3) (au 7))) (b7 (gO u5 u5 (au 4) (au 8) (au 5)))))
@[reducible] def oA:FE:=(aH 2)
@[reducible] def zN:FS:=(bw (bQ 4 (aU gC (aa (aH 0) (aa (aH 2) aG)))) (bw (bQ 5 (mq (Qo (ao (aC aR (au 0) (ao (az (.int 1)))))) (.many 6) jU oA [1,4,3])) (dm (Ef (au 5) (ao (az (.int 0)))))))
def fD:FN:=fN 4 6 zN
@[reducible] def Hr:FS:=(bw (bQ 2 (az (.int 0))) (bw (dI (b7 (aC u0 (au 1) (ao (cY 0)))) (bQ 2 (ir 0 (au 1))) cD) (dm (bH (aa (aC iQ (ao (bC sy (aP (au 2) bF))) (ao (bC zy (aP (ao (aC KN (ao (bC sy (aP (au 2) bF))) (ao (aC oO (ao (az (.int 10))) (ao (az (.int 18))))))) bF)))) (aa (aC aQ (ao (aC aQ (ao (aC jB (au 2) (ao (az (.int 2147483629))))) (ao (aC iQ (ao (az (.int 7919))) (au 1))))) (ao (az (.int 11)))) (aa (az (.int 0)) aG)))))))
def qX:FN:=fN 2 3 Hr
@[reducible] def vJ:FS:=(bw (dI (b7 (aC NQ (ao (gn 0 (ao (az (.int 0))))) (ao (az (.int 0))))) (bw (bQ 2 (aC jB (ao (gn 0 (ao (az (.int 0))))) (au 1))) (bw (yM 0 (ao (az (.int 0))) (aC uf (ao (gn 0 (ao (az (.int 0))))) (au 1))) (cX 2))) cD) (bw (yM 0 (ao (az (.int 2))) (aC aQ (ao (gn 0 (ao (az (.int 2))))) (ao (az (.int 1))))) (bw (bQ 3 (aC jB (ao (aC oO (ao (aC aQ (ao (gn 0 (ao (az (.int 1))))) (ao (aC iQ (ao (az (.int 39373))) (ao (gn 0 (ao (az (.int 2))))))))) (ao (az (.int 5))))) (ao (az (.int 2147483647))))) (dm (aC jB (ao (aC uf (ao (aC jB (ao (aC aQ (ao (aC iQ (au 3) (ao (aC aQ (ao (aC jB (au 3) (ao (az (.int 40009))))) (ao (az (.int 7))))))) (ao (aC iQ (ao (gn 0 (ao (az (.int 2))))) (ao (az (.int 7919))))))) (ao (az (.int 2147483629))))) (ao (az (.int 64))))) (au 1))))))
def aM:FN:=fN 2 4 vJ
@[reducible] def iC:FE:=(aC aQ (ao (lN (au 1) lM (lG (ao (az (.int 7)))))) (au 0))
@[reducible] def lQ:FT:=(b7 (aC vA (au 0) (au 1)))
@[reducible] def lR:FE:=(aH 0)
@[reducible] def iD:FE:=(aC aR (au 1) (ao (aU aM (aa (aH 2) (aa (az (.int 26)) aG)))))
@[reducible] def uP:FS:=(bw (bQ 5 (aC aR (ao (bH (aa (az (.int 1)) (aa (az (.int 8)) (aa (az (.int 2)) aG))))) (ao (aU aM (aa (aH 0) (aa (az (.int 3)) aG)))))) (bw (bQ 6 (d7 (ao (az (.str (Str.ofString "")))) (ao (mq (zx (au 5)) .one gj iD [2,0])))) (bw (dI (cN (b7 (aC nH (ao (aU aM (aa (aH 0) (aa (az (.int 3)) aG)))) (ao (az (.int 0))))) (b7 (aC qm (au 3) (ao (bH aG))))) (bQ 6 (aC aQ (ao (lN (ao (aC aR (au 3) (ao (aU aM (aa (aH 0) (aa (bC iU (aP (au 3) bF)) aG)))))) lM (lG (ao (az (.int 7)))))) (ao (aC aR (au 2) (ao (aU aM (aa (aH 0) (aa (az (.int 26)) aG)))))))) cD) (fY 3 (aC aR (ao (mq (iB (ao (aC aQ (ao (bH (aa (aH 6) aG))) (ao (mq (iB (au 2)) .one gj iC [6]))))) .one lQ lR [3])) (ao (az (.int 0))))))))
@[reducible] def xX:FS:=(bw (bQ 2 (az (.str (Str.ofString "abcdefghijklmnopqrstuvwxyz")))) (bw (bQ 3 (bH aG)) (bw (dB (zx (au 1)) (gh 4) uP) (cX 3))))
def lA:FN:=fN 2 7 xX
@[reducible] def pP:FS:=(bw (bQ 1 (aC aR (ao (bH (aa (az (.int 0)) (aa (az (.int 0)) (aa (az (.int 0)) (aa (az (.int 1)) (aa (az (.int 1)) (aa (az (.int 2)) aG)))))))) (ao (aU aM (aa (aH 0) (aa (az (.int 6)) aG)))))) (dm (aC aR (ao (bH (aa (aU aM (aa (aH 0) (aa (az (.int 12)) aG))) (aa (aU aM (aa (aH 0) (aa (az (.int 40)) aG))) (aa (aC jg (ao (az (.int 99999))) (ao (aU aM (aa (aH 0) (aa (az (.int 99999)) aG))))) aG))))) (au 1))))
def fG:FN:=fN 1 2 pP
@[reducible] def qY:FS:=(dm (aC aR (ao (bH (aa (aU aM (aa (aH 0) (aa (az (.int 9)) aG))) (aa (aC iQ (ao (az (.int 10))) (ao (aU aM (aa (aH 0) (aa (az (.int 20)) aG))))) (aa (aC jg (ao (aC oO (ao (az (.int 10))) (ao (az (.int 9))))) (ao (aU aM (aa (aH 0) (aa (az (.int 3)) aG))))) aG))))) (ao (aC aR (ao (bH (aa (az (.int 0)) (aa (az (.int 1)) (aa (az (.int 1)) (aa (az (.int 1)) (aa (az (.int 2)) aG))))))) (ao (aU aM (aa (aH 0) (aa (az (.int 5)) aG))))))))
def jP:FN:=fN 1 1 qY
@[reducible] def jx:FS:=(bw (bQ 3 (aC aQ (au 3) (ao (aC aR (ao (bH (aa (az (.int 0)) (aa (az (.int 0)) (aa (aC aQ (ao (az (.int 1))) (ao (aU aM (aa (aH 0) (aa (az (.int 9)) aG))))) aG))))) (ao (aU aM (aa (aH 0) (aa (az (.int 3)) aG)))))))) (bw (fY 2 (aH 3)) (bQ 3 (aC aQ (au 3) (ao (az (.int 1)))))))
@[reducible] def qZ:FS:=(bw (fX [2,3] (bT (bH aG) (bT (az (.int 0)) aG))) (bw (dB (zx (au 1)) (gh 4) jx) (cX 2)))
def fM:FN:=fN 2 5 qZ
@[reducible] def vK:FS:=(dm (iG (b7 (aC nH (ao (aU aM (aa (aH 0) (aa (az (.int 3)) aG)))) (ao (az (.int 0))))) (aH 1) (aU aM (aa (aH 0) (aa (aC aQ (au 1) (ao (az (.int 1)))) aG)))))
def eX:FN:=fN 2 2 vK
@[reducible] def lU:FE:=(aC aR (au 0) (ao (az (.int 0))))
@[reducible] def uQ:FS:=(fY 2 (fQ (aa (aC aR (au 1) (au 3)) (aa (aC aR (ao (aC aQ (ao (bH (aa (az (.str (Str.ofString ""))) aG))) (ao (mq (iB (au 2)) .one gj lU [])))) (ao (aU aM (aa (aH 0) (aa (aC aQ (au 3) (ao (az (.int 1)))) aG))))) aG))))
@[reducible] def xY:FS:=(bw (bQ 2 (bH aG)) (bw (dB (zx (ao (bC Bl (aP (ao (az (.int 1))) (aP (ao (aU eX (aa (aH 0) (aa (az (.int 8)) aG)))) bF))))) (gh 3) uQ) (cX 2)))
def lB:FN:=fN 2 4 xY
@[reducible] def lV:FE:=(aC aQ (au 0) (ao (fQ (aa (aC aR (au 1) (au 0)) aG))))
@[reducible] def lW:FS:=(bw (bQ 17 (aC aR (ao (aC aQ (ao (bH (aa (az (.str (Str.ofString ""))) (aa (az (.str (Str.ofString ""))) aG)))) (au 3))) (ao (aU aM (aa (aH 0) (aa (aC aQ (ao (az (.int 2))) (ao (bC iU (aP (au 3) bF)))) aG)))))) (fY 15 (fQ (aa (aC aQ (ao (az (.int 1))) (ao (aU aM (aa (aH 0) (aa (aC aR (ao (bH (aa (az (.int 9)) (aa (az (.int 3)) aG)))) (ao (aU aM (aa (aH 0) (aa (az (.int 2)) aG))))) aG))))) (aa (aH 17) aG)))))
@[reducible] def jH:FS:=(bw (fX [14,15] (bT (fQ (aa (aC aR (au 3) (ao (aU aM (aa (aH 0) (aa (bC iU (aP (au 3) bF)) aG))))) (aa (aU jP (aa (aH 0) aG)) aG))) (bT (bH aG) aG))) (bw (dB (zx (ao (aU eX (aa (aH 0) (aa (az (.int 6)) aG))))) (gh 16) lW) (yM 6 (au 14) (bC eV (aP (au 15) bF)))))
@[reducible] def jJ:FS:=(bw (fX [8,11] (bT (bC dN (aP (ao (bH (aa (aU fG (aa (aH 0) aG)) (aa (aU fG (aa (aH 0) aG)) aG)))) bF)) (bT (aU aM (aa (aH 0) (aa (az (.int 9)) aG))) aG))) (bw (fX [12,10] (bT (aC aR (au 1) (ao (aC jB (ao (aC aQ (ao (aC aQ (au 11) (ao (az (.int 1))))) (ao (aU aM (aa (aH 0) (aa (az (.int 8)) aG)))))) (ao (az (.int 9)))))) (bT (aC aR (au 3) (ao (aU aM (aa (aH 0) (aa (bC iU (aP (au 3) bF)) aG))))) aG))) (fY 5 (fQ (aa (aH 7) (aa (aC aR (au 1) (au 11)) (aa (aH 12) (aa (aH 10) (aa (aC aR (au 8) (ao (az (.int 0)))) (aa (aC aR (au 8) (ao (az (.int 1)))) (aa (aU jP (aa (aH 0) aG)) aG)))))))))))
@[reducible] def jK:FS:=(bw (bQ 8 (bC dN (aP (ao (bH (aa (aU fG (aa (aH 0) aG)) (aa (aU fG (aa (aH 0) aG)) aG)))) bF))) (bw (fX [9,10] (bT (aC aR (au 1) (ao (aU aM (aa (aH 0) (aa (az (.int 9)) aG))))) (bT (aC aR (au 3) (ao (aU aM (aa (aH 0) (aa (bC iU (aP (au 3) bF)) aG))))) aG))) (fY 4 (fQ (aa (aH 7) (aa (aH 9) (aa (aC aQ (ao (az (.int 1))) (ao (aU aM (aa (aH 0) (aa (aC aR (ao (bH (aa (az (.int 9)) (aa (az (.int 3)) aG)))) (ao (aU aM (aa (aH 0) (aa (az (.int 2)) aG))))) aG))))) (aa (aH 10) (aa (aC aR (au 8) (ao (az (.int 0)))) (aa (aC aR (au 8) (ao (az (.int 1)))) aG))))))))))
@[reducible] def uR:FE:=(aC aR (au 0) (ao (az (.int 0))))
@[reducible] def xZ:FS:=(bw (bQ 2 (aU lB (aa (aH 0) (aa (aH 1) aG)))) (bw (fX [3,4,5,6] (bT (mq (iB (au 2)) .one gj uR []) (bT (bH aG) (bT (bH aG) (bT cI aG))))) (bw (dB (iV (aU fM (aa (aH 0) (aa (aU eX (aa (aH 0) (aa (az (.int 20)) aG))) aG)))) (gh 7) jK) (bw (dB (iV (aU fM (aa (aH 0) (aa (aU eX (aa (aH 0) (aa (az (.int 16)) aG))) aG)))) (gh 7) jJ) (bw (dB (zx (ao (aU eX (aa (aH 0) (aa (az (.int 10)) aG))))) (gh 13) jH) (bw (bQ 18 (mq (iB (ao (bC dN (aP (au 6) bF)))) .one gj lV [6])) (dm (fQ (aa (aH 2) (aa (fQ (aa (bC eV (aP (ao (bC dN (aP (au 2) bF))) bF)) (aa (bC eV (aP (au 4) bF)) (aa (bC eV (aP (au 5) bF)) (aa (bC eV (aP (au 18) bF)) aG))))) aG))))))))))
def lC:FN:=fN 2 19 xZ
@[reducible] def Hs (BJ:FN):FE:=(aU BJ (aa (aH 0) (aa (aH 1) aG)))
@[reducible] def BK (BJ:FN):FS:=(bw (dI (b7 (aC eE (au 1) (ao (az .none)))) (dm (aC eE (au 0) (ao (az .none)))) cD) (bw (dI (gM (ao (fU "bool" (au 1)))) (dm (dj (fU "bool" (au 0)) (aC nH (au 0) (au 1)))) cD) (bw (dI (gM (ao (fB "list" "tuple" (au 1)))) (bw (dI (je (b7 (aC qm (ao (fU "list" (au 0))) (ao (fU "list" (au 1))))) (b7 (aC qm (ao (fU "tuple" (au 0))) (ao (fU "tuple" (au 1)))))) (dm (az (.bool false))) cD) (dm (dj (aC nH (ao (bC iU (aP (au 0) bF))) (ao (bC iU (aP (au 1) bF)))) (bC Ou (aP (ao (mq (iZp (aP (au 0) (aP (au 1) bF))) (.many 2) gj (Hs BJ) [])) bF))))) cD) (bw (dI (gM (ao (fU "str" (au 1)))) (dm (dj (fU "str" (au 0)) (aC nH (au 0) (au 1)))) cD) (dm (dj (fU "int" (au 0)) (dj (eF (fU "bool" (au 0))) (aC nH (au 0) (au 1)))))))))
def jc:Nat→FN
 | 0=>O8
 | n + 1=>fN 2 2 (BK (jc n))
@[reducible] def yc:FS:=(yM 1 (au 2) (aC aQ (ao (bH (aa (aH 2) aG))) (ao (Bm (au 1) (au 3) (bH aG)))))
@[reducible] def BL:FS:=(bw (bQ 1 cI) (bw (dB (W2 (aH 0)) (qw 2 (bO (gh 2) (bO (gh 3) dH))) yc) (cX 1)))
def qg:FN:=fN 1 4 BL
@[reducible] def oE:FT:=(b7 (gO u5 u0 (ao (az (.int 0))) (au 0) (ao (az (.int 100000)))))
@[reducible] def oF:FE:=(aH 0)
@[reducible] def ye:FS:=(bQ 2 (aC aQ (au 2) (ao (bH (aa (aC aR (au 3) (ao (az (.int 4)))) (aa (aC aR (au 3) (ao (az (.int 5)))) (aa (aC jg (ao (aC aR (au 3) (ao (az (.int 4))))) (ao (az (.int 1)))) (aa (aC aQ (ao (aC aR (au 3) (ao (az (.int 5))))) (ao (az (.int 1)))) aG))))))))
@[reducible] def JB:FS:=(bw (bQ 2 (bH (aa (az (.int 0)) (aa (aU fG (aa (aH 0) aG)) (aa (aU fG (aa (aH 0) aG)) aG))))) (bw (dB (iV (aC aQ (ao (lN (ao (aC aR (au 1) (ao (az (.int 1))))) lM (lG (ao (az (.int 3)))))) (ao (lN (ao (aC aR (au 1) (ao (az (.int 1))))) (lG (ao (iH (ao (az (.int 1)))))) lM)))) (gh 3) ye) (dm (Ec (ao (mq (iB (au 2)) .one oE oF []))))))
def oG:FN:=fN 2 4 JB
@[reducible] def yf:FS:=(bw (bQ 15 (iG (b7 (aC qm (au 14) (ao (az (.str (Str.ofString "")))))) (aU fD (aa (aH 5) (aa (aH 10) (aa (aH 14) (aa (aH 9) aG))))) (az (.int 0)))) (dI (b7 (aC u0 (ao (aU fD (aa (aH 5) (aa (aH 10) (aa (aH 12) (aa (aH 9) aG)))))) (au 15))) (dm (az (.bool false))) cD))
@[reducible] def nj:FT:=(b7 (aC GR (ao (aC aR (au 0) (ao (az (.int 3))))) (ao (Bm (au 1) (au 2) (bH aG)))))
@[reducible] def pQ:FE:=(aC aR (au 0) (ao (az (.int 2))))
@[reducible] def yg:FS:=(bw (bQ 13 (bC uv (aP (ao (aC aQ (ao (bH (aa (az (.int 0)) aG))) (ao (mq (iB (au 11)) .one nj pQ [7,12])))) bF))) (dI (dY (gM (ao (aU (jc 3) (aa (aU fD (aa (aH 5) (aa (aH 10) (aa (aH 12) (aa (aH 9) aG))))) (aa (aH 13) aG)))))) (dm (az (.bool false))) cD))
@[reducible] def sX:FT:=(cN (b7 (aC nH (ao (aC aR (au 0) (ao (az (.int 1))))) (au 1))) (cN (b7 (aC u5 (ao (aC aR (au 0) (ao (az (.int 4))))) (au 2))) (b7 (aC u5 (au 2) (ao (aC aR (au 0) (ao (az (.int 5)))))))))
@[reducible] def yh:FE:=(aH 0)
@[reducible] def yj:FS:=(bw (bQ 11 (mq (iB (ao (aC aR (au 5) (ao (az (.int 1)))))) .one sX yh [10,9])) (bw (dB (iV (aC aQ (ao (bC p6 (aP (au 7) bF))) (ao (bH (aa (az (.str (Str.ofString "qqqqqqqq"))) aG))))) (gh 12) yg) (dB (W2 (aH 4)) (qw 2 (bO (gh 12) (bO (gh 14) dH))) yf)))
@[reducible] def pR:FS:=(dB (iV (aH 8)) (gh 10) yj)
@[reducible] def nq:FE:=(aC aR (au 0) (ao (az (.int 1))))
@[reducible] def sY:FS:=(bw (iI 2 (aU qX (aa (aH 0) (aa (aH 1) aG)))) (bw (bQ 3 (aU lA (aa (aH 2) (aa (az (.int 9)) aG)))) (bw (iR (aU lC (aa (aH 2) (aa (aH 3) aG))) (qw 2 (bO (gh 4) (bO (gh 5) dH)))) (bw (fX [6,7] (bT (bC kJ (aP (au 5) bF)) (bT (aU qg (aa (aH 4) aG)) aG))) (bw (bQ 8 (Ed (ao (aC aQ (ao (aC aQ (ao (mq (iB (ao (aC aR (au 5) (ao (az (.int 1)))))) .one gj nq [])) (ao (lN (au 3) lM (lG (ao (az (.int 1)))))))) (ao (bH (aa (az (.str (Str.ofString "qqqqqqqq"))) aG))))))) (bw (dB (iV (aU oG (aa (aH 2) (aa (aH 5) aG)))) (gh 9) pR) (dI (b7 (aC qm (ao (bC kJ (aP (au 5) bF))) (au 6))) (dm (az (.bool false))) cD)))))))
@[reducible] def Pu:FS:=(bw (dB (zx (ao (aC aQ (ao (az (.int 1))) (ao (bC ur (aP (ao (az (.int 1))) (aP (ao (cY 0)) bF))))))) (gh 1) sY) (dm (az (.bool true))))
def zO:FN:=fN 1 16 Pu
end pN
set_option maxHeartbeats 4000000
namespace pN
open PySem L2
theorem yN {P:Program} {w:World} {K:PySem.W.Frag} {mg:Str→Option Value} {base:Heap} {f:Addr} {fd:FuncData} (F:yF K "parts_over" "parts_over" fL f fd) (T:Txt K mg):gJ P w K mg base uY 1 f fd (["house","part"]:List Str) (spT K gC):=
 kE (body:=ou) F jw fun cdv A outer s H E hr=>(aN (O1 (i:=2) (T:=(.many 2)) (NT:=(["name","within"]:List Str)) (NF:=([]:List Str)) (js:=[]) (tU.ok (N0:=(["house","part","outer","over"]:List Str)) (Ck:=aL fL) (by decide +kernel) rfl rfl) (⟨_,_,_,rfl,(.cons ⟨_,rfl⟩ (.cons ⟨_,rfl⟩ .nil)),rfl⟩) rfl hr.aW (Uk (aq (bV (bA hr.aW) bW (aB (pv 0)) (aq (aA aD)) (fun _ _=>rfl)))) (fun b=>⟨lK,(aK (pv 0)),(aK (pv 1))⟩) (by rfl) jw.nd rfl rfl) (aN (cP (i:=3) jw.nd rfl (Or.inl rfl) (cC aJ)) (aN (Oi PassesOwn.never (fJ (GX hr.aW) N6 (aB (pv 1)) (aB (pv 2)) (by with_unfolding_all rfl)) (aN (qN (pv 3) (aK (pv 1))) (bK (cP (i:=1) jw.nd rfl (Or.inl rfl) (bV (bA hr.aW) bW (aB (pv 2)) (aB (pv 1)) (fun _ _=>rfl)))))) (bK (pZ (pv 3))))))
theorem Ht {P:Program} {w:World} {K:PySem.W.Frag} {mg:Str→Option Value} {base:Heap} {f:Addr} {fd:FuncData} (F:yF K "rank_of" "rank_of" jn f fd) (T:Txt K mg) (oH:nA P w K mg base "parts_over" 1 (["house","part"]:List Str) (spT K gC)):gJ P w K mg base uY 2 f fd (["house","person","part","day"]:List Str) (spT K fD):=
 kE (body:=zN) F qU fun cdv A outer s H E hr=>(aN (cP (i:=4) qU.nd rfl (Or.inr rfl) (bI oH (hr.mono (by decide)) rfl (aj (aK (pv 0)) (aj (aK (pv 2)) aJ)))) (aN (wY (i:=5) (T:=(.many 6)) (NT:=(["number","who","rank","where","first","last"]:List Str)) (NF:=(["person","over","day"]:List Str)) (js:=[1,4,3]) (tU.ok (N0:=(["house","person","part","day","over","held"]:List Str)) (Ck:=aL jn) (by decide +kernel) rfl rfl) (⟨_,_,_,rfl,(.cons ⟨_,rfl⟩ (.cons ⟨_,rfl⟩ (.cons ⟨_,rfl⟩ (.cons ⟨_,rfl⟩ (.cons ⟨_,rfl⟩ (.cons ⟨_,rfl⟩ .nil)))))),rfl⟩) rfl (Uk (aq (bV (bA hr.aW) bW (aB (pv 0)) (aq (aA aD)) (fun _ _=>rfl)))) (fun b=>⟨(sr (PW.pt (wR (fJ (pF hr.units) uL (aB (pv 1)) (aB (pv 6)) (d9 _)) (wR (fJ (GX hr.aW) N6 (aB (pv 3)) (aB (pv 7)) (by with_unfolding_all rfl)) (Ba (Ob wO Dw wO Dw (aB (pv 4)) (aB (pv 8)) (aB (pv 5)))))))),(aK (pv 2))⟩) (by rfl) qU.nd rfl rfl) (bK (fW (RN rfl (aB (pv 5)) (aq (aA aD)) rfl T.xW)))))
theorem Sg {P:Program} {w:World} {K:PySem.W.Frag} {mg:Str→Option Value} {base:Heap} {f:Addr} {fd:FuncData} (F:yF K "_law_box" "_law_box" uA f fd) (T:Txt K mg):gJ P w K mg base uY 1 f fd (["_law_script","_law_k"]:List Str) (spT K qX):=
 kE (body:=Hr) F By fun cdv A outer s H E hr=>(aN (cP (i:=2) By.nd rfl (Or.inl rfl) (aA aD)) (aN (pH (fJ (qG hr.FP) NP (aB (pv 1)) (aq (Jm (pv 0) rfl T.m7 (by decide +kernel))) (d9 _)) (bK (cP (i:=2) By.nd rfl (Or.inl rfl) (Wg (pv 0) (aB (pv 1)) (fun _ _=>rfl)))) j8) (bK (fW (cC (aj (bf tQ ug (aq (cH Cu Ot rfl T.zJ (by decide +kernel) (bu (aB (pv 2)) bR))) (aq (j7 J3 Wh rfl T.zK (by decide +kernel) (bu (aq (ue Xv Yl (aq (cH Cu Ot rfl T.zJ (by decide +kernel) (bu (aB (pv 2)) bR))) (aq (bf Ft GP (aq (aA aD)) (aq (aA aD)))) (d9 _))) bR)))) (aj (bf bM cz (aq (bf bM cz (aq (bf qz qL (aB (pv 2)) (aq (aA aD)))) (aq (bf tQ ug (aq (aA aD)) (aB (pv 1)))))) (aq (aA aD))) (aj (aA aD) aJ))))))))
theorem Px {P:Program} {w:World} {K:PySem.W.Frag} {mg:Str→Option Value} {base:Heap} {f:Addr} {fd:FuncData} (F:yF K "_law_take" "_law_take" p7 f fd) (T:Txt K mg):gJ P w K mg base uY 1 f fd (["_law_box_here","_law_many_here"]:List Str) (spT K aM):=
 kE (body:=vJ) F xV fun cdv A outer s H E hr=>(aN (pH (fJ Xu Yk (aq (qP (pv 0) (aq (aA aD)) (fun _ _=>rfl))) (aq (aA aD)) (d9 _)) (aN (cP (i:=2) xV.nd rfl (Or.inl rfl) (bf qz qL (aq (qP (pv 0) (aq (aA aD)) (fun _ _=>rfl))) (aB (pv 1)))) (aN (Bg hr.aW (pv 0) (aq (aA aD)) (bf HS IV (aq (qP (pv 0) (aq (aA aD)) (fun _ _=>rfl))) (aB (pv 1)))) (bK (pZ (pv 2))))) j8) (aN (Bg hr.aW (pv 0) (aq (aA aD)) (bf bM cz (aq (qP (pv 0) (aq (aA aD)) (fun _ _=>rfl))) (aq (aA aD)))) (aN (cP (i:=3) xV.nd rfl (Or.inl rfl) (bf qz qL (aq (bf Ft GP (aq (bf bM cz (aq (qP (pv 0) (aq (aA aD)) (fun _ _=>rfl))) (aq (bf tQ ug (aq (aA aD)) (aq (qP (pv 0) (aq (aA aD)) (fun _ _=>rfl))))))) (aq (aA aD)))) (aq (aA aD)))) (bK (fW (bf qz qL (aq (bf HS IV (aq (bf qz qL (aq (bf bM cz (aq (bf tQ ug (aB (pv 3)) (aq (bf bM cz (aq (bf qz qL (aB (pv 3)) (aq (aA aD)))) (aq (aA aD)))))) (aq (bf tQ ug (aq (qP (pv 0) (aq (aA aD)) (fun _ _=>rfl))) (aq (aA aD)))))) (aq (aA aD)))) (aq (aA aD)))) (aB (pv 1))))))))
theorem K8 {P:Program} {w:World} {K:PySem.W.Frag} {mg:Str→Option Value} {base:Heap} {f:Addr} {fd:FuncData} (F:yF K "_law_names" "_law_names" iZ f fd) (T:Txt K mg) (aZ:nA P w K mg base "_law_take" 1 (["_law_box_here","_law_many_here"]:List Str) (spT K aM)):gJ P w K mg base uY 2 f fd (["_law_box_here","_law_many_here"]:List Str) (spT K lA):=
 kE (body:=xX) F jo fun cdv A outer s H E hr=>(aN (cP (i:=2) jo.nd rfl (Or.inr rfl) (aA oX)) (aN (cP (i:=3) jo.nd rfl (Or.inr rfl) (cC aJ)) (aN (iT PassesOwn.never rfl (kh rfl T.jb (aB (pv 1))) (cB (i:=4) jo.nd rfl (Or.inl rfl)) dM (aN (cP (i:=5) jo.nd rfl (Or.inl rfl) (bV (bA hr.aW) bW (aq (cC (aj (aA aD) (aj (aA aD) (aj (aA aD) aJ))))) (aq (bI aZ (hr.mono (by decide)) rfl (aj (aK (pv 0)) (aj (aA aD) aJ)))) (fun _ _=>rfl))) (aN (cP (i:=6) jo.nd rfl (Or.inr rfl) (RT (aq (aA oX)) (aq (su (T:=.one) (NT:=(["_law_j"]:List Str)) (NF:=(["_law_letters","_law_box_here"]:List Str)) (js:=[2,0]) (tU.ok (N0:=(["_law_box_here","_law_many_here","_law_letters","_law_found","_law_k","_law_size","_law_name"]:List Str)) (Ck:=aL iZ) (by decide +kernel) rfl rfl) (⟨_,⟨_,rfl⟩,rfl⟩) rfl (kh rfl T.jb (aB (pv 5))) (fun b=>⟨lK,(bV (bA hr.aW) bW (aB (pv 1)) (aq (bI aZ (hr.mono (by decide)) rfl (aj (aK (pv 2)) (aj (aA aD) aJ)))) (fun _ _=>rfl))⟩))))) (aN (pH (PW.pt (wR (fJ (pF hr.units) uL (aq (bI aZ (hr.mono (by decide)) rfl (aj (aK (pv 0)) (aj (aA aD) aJ)))) (aq (aA aD)) (d9 _)) (Ba (fJ (wN hr.units) Dv (aB (pv 3)) (aq (cC aJ)) (d9 _))))) (bK (cP (i:=6) jo.nd rfl (Or.inr rfl) (bf bM cz (aq (Ei (aq (bV (bA hr.aW) bW (aB (pv 3)) (aq (bI aZ (hr.mono (by decide)) rfl (aj (aK (pv 0)) (aj (cH jk qO rfl T.m7 (by decide +kernel) (bu (aB (pv 3)) bR)) aJ)))) (fun _ _=>rfl))) Eg (Eh (aq (aA aD))))) (aq (bV (bA hr.aW) bW (aB (pv 2)) (aq (bI aZ (hr.mono (by decide)) rfl (aj (aK (pv 0)) (aj (aA aD) aJ)))) (fun _ _=>rfl)))))) j8) (bK (qN (pv 3) (bV (bA hr.aW) bW (aq (su (T:=.one) (NT:=(["_law_one"]:List Str)) (NF:=(["_law_found"]:List Str)) (js:=[3]) (tU.ok (N0:=(["_law_box_here","_law_many_here","_law_letters","_law_found","_law_k","_law_size","_law_name"]:List Str)) (Ck:=aL iZ) (by decide +kernel) rfl rfl) (⟨_,⟨_,rfl⟩,rfl⟩) rfl (Bj (aq (bf bM cz (aq (cC (aj (aK (pv 6)) aJ))) (aq (su (T:=.one) (NT:=(["_law_one"]:List Str)) (NF:=(["_law_name"]:List Str)) (js:=[6]) (tU.ok (N0:=(["_law_box_here","_law_many_here","_law_letters","_law_found","_law_k","_law_size","_law_name"]:List Str)) (Ck:=aL iZ) (by decide +kernel) rfl rfl) (⟨_,⟨_,rfl⟩,rfl⟩) rfl (Bj (aB (pv 2))) (fun b=>⟨lK,(bf bM cz (aq (Ei (aB (pv 1)) Eg (Eh (aq (aA aD))))) (aB (pv 0)))⟩)))))) (fun b=>⟨(sr (fJ (KR hr.aW) N7 (aB (pv 0)) (aB (pv 1)) (by with_unfolding_all rfl))),(aK (pv 0))⟩))) (aq (aA aD)) (fun _ _=>rfl)))))))) (bK (pZ (pv 3))))))
theorem Sh {P:Program} {w:World} {K:PySem.W.Frag} {mg:Str→Option Value} {base:Heap} {f:Addr} {fd:FuncData} (F:yF K "_law_day" "_law_day" uB f fd) (T:Txt K mg) (aZ:nA P w K mg base "_law_take" 1 (["_law_box_here","_law_many_here"]:List Str) (spT K aM)):gJ P w K mg base uY 2 f fd (["_law_box_here"]:List Str) (spT K fG):=
 kE (body:=pP) F Jz fun cdv A outer s H E hr=>(aN (cP (i:=1) Jz.nd rfl (Or.inl rfl) (bV (bA hr.aW) bW (aq (cC (aj (aA aD) (aj (aA aD) (aj (aA aD) (aj (aA aD) (aj (aA aD) (aj (aA aD) aJ)))))))) (aq (bI aZ (hr.mono (by decide)) rfl (aj (aK (pv 0)) (aj (aA aD) aJ)))) (fun _ _=>rfl))) (bK (fW (bV (bA hr.aW) bW (aq (cC (aj (bI aZ (hr.mono (by decide)) rfl (aj (aK (pv 0)) (aj (aA aD) aJ))) (aj (bI aZ (hr.mono (by decide)) rfl (aj (aK (pv 0)) (aj (aA aD) aJ))) (aj (bf Fq GK (aq (aA aD)) (aq (bI aZ (hr.mono (by decide)) rfl (aj (aK (pv 0)) (aj (aA aD) aJ))))) aJ))))) (aB (pv 1)) (fun _ _=>rfl)))))
theorem Sq {P:Program} {w:World} {K:PySem.W.Frag} {mg:Str→Option Value} {base:Heap} {f:Addr} {fd:FuncData} (F:yF K "_law_sum" "_law_sum" uC f fd) (T:Txt K mg) (aZ:nA P w K mg base "_law_take" 1 (["_law_box_here","_law_many_here"]:List Str) (spT K aM)):gJ P w K mg base uY 2 f fd (["_law_box_here"]:List Str) (spT K jP):=
 kE (body:=qY) F Sd fun cdv A outer s H E hr=>(bK (fW (bV (bA hr.aW) bW (aq (cC (aj (bI aZ (hr.mono (by decide)) rfl (aj (aK (pv 0)) (aj (aA aD) aJ))) (aj (bf tQ ug (aq (aA aD)) (aq (bI aZ (hr.mono (by decide)) rfl (aj (aK (pv 0)) (aj (aA aD) aJ))))) (aj (bf Fq GK (aq (bf Ft GP (aq (aA aD)) (aq (aA aD)))) (aq (bI aZ (hr.mono (by decide)) rfl (aj (aK (pv 0)) (aj (aA aD) aJ))))) aJ))))) (aq (bV (bA hr.aW) bW (aq (cC (aj (aA aD) (aj (aA aD) (aj (aA aD) (aj (aA aD) (aj (aA aD) aJ))))))) (aq (bI aZ (hr.mono (by decide)) rfl (aj (aK (pv 0)) (aj (aA aD) aJ)))) (fun _ _=>rfl))) (fun _ _=>rfl))))
theorem EY {P:Program} {w:World} {K:PySem.W.Frag} {mg:Str→Option Value} {base:Heap} {f:Addr} {fd:FuncData} (F:yF K "_law_numbers" "_law_numbers" jq f fd) (T:Txt K mg) (aZ:nA P w K mg base "_law_take" 1 (["_law_box_here","_law_many_here"]:List Str) (spT K aM)):gJ P w K mg base uY 2 f fd (["_law_box_here","_law_many_here"]:List Str) (spT K fM):=
 kE (body:=qZ) F jF fun cdv A outer s H E hr=>(aN (wX (i:=2) (j:=3) rfl jF.nd rfl rfl (by decide) rfl rfl (eU (cC aJ) (eU (aA aD) qM)) rfl) (aN (iT PassesOwn.never rfl (kh rfl T.jb (aB (pv 1))) (cB (i:=4) jF.nd rfl (Or.inl rfl)) dM (aN (cP (i:=3) jF.nd rfl (Or.inl rfl) (bf bM cz (aB (pv 3)) (aq (bV (bA hr.aW) bW (aq (cC (aj (aA aD) (aj (aA aD) (aj (bf bM cz (aq (aA aD)) (aq (bI aZ (hr.mono (by decide)) rfl (aj (aK (pv 0)) (aj (aA aD) aJ))))) aJ))))) (aq (bI aZ (hr.mono (by decide)) rfl (aj (aK (pv 0)) (aj (aA aD) aJ)))) (fun _ _=>rfl))))) (aN (qN (pv 2) (aK (pv 3))) (bK (cP (i:=3) jF.nd rfl (Or.inl rfl) (bf bM cz (aB (pv 3)) (aq (aA aD)))))))) (bK (pZ (pv 2)))))
theorem Py {P:Program} {w:World} {K:PySem.W.Frag} {mg:Str→Option Value} {base:Heap} {f:Addr} {fd:FuncData} (F:yF K "_law_many" "_law_many" qb f fd) (T:Txt K mg) (aZ:nA P w K mg base "_law_take" 1 (["_law_box_here","_law_many_here"]:List Str) (spT K aM)):gJ P w K mg base uY 2 f fd (["_law_box_here","_law_most"]:List Str) (spT K eX):=
 kE (body:=vK) F Pq fun cdv A outer s H E hr=>(bK (fW (Ub (fJ (pF hr.units) uL (aq (bI aZ (hr.mono (by decide)) rfl (aj (aK (pv 0)) (aj (aA aD) aJ)))) (aq (aA aD)) (d9 _)) (aK (pv 1)) (bI aZ (hr.mono (by decide)) rfl (aj (aK (pv 0)) (aj (bf bM cz (aB (pv 1)) (aq (aA aD))) aJ))))))
theorem K9 {P:Program} {w:World} {K:PySem.W.Frag} {mg:Str→Option Value} {base:Heap} {f:Addr} {fd:FuncData} (F:yF K "_law_parts" "_law_parts" lq f fd) (T:Txt K mg) (aZ:nA P w K mg base "_law_take" 1 (["_law_box_here","_law_many_here"]:List Str) (spT K aM)) (jV:nA P w K mg base "_law_many" 2 (["_law_box_here","_law_most"]:List Str) (spT K eX)):gJ P w K mg base uY 3 f fd (["_law_box_here","_law_names_here"]:List Str) (spT K lB):=
 kE (body:=xY) F uD fun cdv A outer s H E hr=>(aN (cP (i:=2) uD.nd rfl (Or.inl rfl) (cC aJ)) (aN (iT PassesOwn.never rfl (kh rfl T.jb (aq (cH (J1 rfl) RG rfl T.xW (by decide +kernel) (bu (aq (aA aD)) (bu (aq (bI jV (hr.mono (by decide)) rfl (aj (aK (pv 0)) (aj (aA aD) aJ)))) bR))))) (cB (i:=3) uD.nd rfl (Or.inl rfl)) dM (bK (qN (pv 2) (pG (aj (bV (bA hr.aW) bW (aB (pv 1)) (aB (pv 3)) (fun _ _=>rfl)) (aj (bV (bA hr.aW) bW (aq (bf bM cz (aq (cC (aj (aA oX) aJ))) (aq (su (T:=.one) (NT:=(["_law_row"]:List Str)) (NF:=([]:List Str)) (js:=[]) (tU.ok (N0:=(["_law_box_here","_law_names_here","_law_rows","_law_k"]:List Str)) (Ck:=aL lq) (by decide +kernel) rfl rfl) (⟨_,⟨_,rfl⟩,rfl⟩) rfl (Bj (aB (pv 2))) (fun b=>⟨lK,(bV (bA hr.aW) bW (aB (pv 0)) (aq (aA aD)) (fun _ _=>rfl))⟩))))) (aq (bI aZ (hr.mono (by decide)) rfl (aj (aK (pv 0)) (aj (bf bM cz (aB (pv 3)) (aq (aA aD))) aJ)))) (fun _ _=>rfl)) aJ)))))) (bK (pZ (pv 2)))))
theorem La {P:Program} {w:World} {K:PySem.W.Frag} {mg:Str→Option Value} {base:Heap} {f:Addr} {fd:FuncData} (F:yF K "_law_house" "_law_house" jG f fd) (T:Txt K mg) (aZ:nA P w K mg base "_law_take" 1 (["_law_box_here","_law_many_here"]:List Str) (spT K aM)) (mF:nA P w K mg base "_law_day" 2 (["_law_box_here"]:List Str) (spT K fG)) (BP:nA P w K mg base "_law_sum" 2 (["_law_box_here"]:List Str) (spT K jP)) (oJ:nA P w K mg base "_law_numbers" 2 (["_law_box_here","_law_many_here"]:List Str) (spT K fM)) (jV:nA P w K mg base "_law_many" 2 (["_law_box_here","_law_most"]:List Str) (spT K eX)) (ym:nA P w K mg base "_law_parts" 3 (["_law_box_here","_law_names_here"]:List Str) (spT K lB)):gJ P w K mg base uY 4 f fd (["_law_box_here","_law_names_here"]:List Str) (spT K lC):=
 kE (body:=xZ) F cA fun cdv A outer s H E hr=>(aN (cP (i:=2) cA.nd rfl (Or.inl rfl) (bI ym (hr.mono (by decide)) rfl (aj (aK (pv 0)) (aj (aK (pv 1)) aJ)))) (aN (Jh (is:=[3,4,5,6]) (eU (su (T:=.one) (NT:=(["_law_row"]:List Str)) (NF:=([]:List Str)) (js:=[]) (tU.ok (N0:=(["_law_box_here","_law_names_here","_law_parts_here","_law_own","_law_ranks","_law_leaves","_law_rules","_law_number","_law_days_here","_law_who","_law_where","_law_at","_law_taker","_law_k","_law_key","_law_seats","_law_j","_law_part","_law_rows"]:List Str)) (Ck:=aL jG) (by decide +kernel) rfl rfl) (⟨_,⟨_,rfl⟩,rfl⟩) rfl (Bj (aB (pv 2))) (fun b=>⟨lK,(bV (bA hr.aW) bW (aB (pv 0)) (aq (aA aD)) (fun _ _=>rfl))⟩)) (eU (cC aJ) (eU (cC aJ) (eU DK qM)))) (vQ rfl (fO (cB (i:=3) cA.nd rfl (Or.inl rfl)) (fO (cB (i:=4) cA.nd rfl (Or.inl rfl)) (fO (cB (i:=5) cA.nd rfl (Or.inl rfl)) (fO (cB (i:=6) cA.nd rfl (Or.inr rfl)) rD)))))) (aN (iT PassesOwn.never rfl (K1 (bI oJ (hr.mono (by decide)) rfl (aj (aK (pv 0)) (aj (bI jV (hr.mono (by decide)) rfl (aj (aK (pv 0)) (aj (aA aD) aJ))) aJ)))) (cB (i:=7) cA.nd rfl (Or.inl rfl)) dM (aN (cP (i:=8) cA.nd rfl (Or.inl rfl) (cH (nU rfl) sH rfl T.gP (by decide +kernel) (bu (aq (cC (aj (bI mF (hr.mono (by decide)) rfl (aj (aK (pv 0)) aJ)) (aj (bI mF (hr.mono (by decide)) rfl (aj (aK (pv 0)) aJ)) aJ)))) bR))) (aN (wX (i:=9) (j:=10) rfl cA.nd rfl rfl (by decide) rfl rfl (eU (bV (bA hr.aW) bW (aB (pv 1)) (aq (bI aZ (hr.mono (by decide)) rfl (aj (aK (pv 0)) (aj (aA aD) aJ)))) (fun _ _=>rfl)) (eU (bV (bA hr.aW) bW (aB (pv 3)) (aq (bI aZ (hr.mono (by decide)) rfl (aj (aK (pv 0)) (aj (cH jk qO rfl T.m7 (by decide +kernel) (bu (aB (pv 3)) bR)) aJ)))) (fun _ _=>rfl)) qM)) rfl) (bK (qN (pv 4) (pG (aj (aK (pv 7)) (aj (aK (pv 9)) (aj (bf bM cz (aq (aA aD)) (aq (bI aZ (hr.mono (by decide)) rfl (aj (aK (pv 0)) (aj (bV (bA hr.aW) bW (aq (cC (aj (aA aD) (aj (aA aD) aJ)))) (aq (bI aZ (hr.mono (by decide)) rfl (aj (aK (pv 0)) (aj (aA aD) aJ)))) (fun _ _=>rfl)) aJ))))) (aj (aK (pv 10)) (aj (bV (bA hr.aW) bW (aB (pv 8)) (aq (aA aD)) (fun _ _=>rfl)) (aj (bV (bA hr.aW) bW (aB (pv 8)) (aq (aA aD)) (fun _ _=>rfl)) aJ)))))))))))) (aN (iT PassesOwn.never rfl (K1 (bI oJ (hr.mono (by decide)) rfl (aj (aK (pv 0)) (aj (bI jV (hr.mono (by decide)) rfl (aj (aK (pv 0)) (aj (aA aD) aJ))) aJ)))) (cB (i:=7) cA.nd rfl (Or.inl rfl)) dM (aN (wX (i:=8) (j:=11) rfl cA.nd rfl rfl (by decide) rfl rfl (eU (cH (nU rfl) sH rfl T.gP (by decide +kernel) (bu (aq (cC (aj (bI mF (hr.mono (by decide)) rfl (aj (aK (pv 0)) aJ)) (aj (bI mF (hr.mono (by decide)) rfl (aj (aK (pv 0)) aJ)) aJ)))) bR)) (eU (bI aZ (hr.mono (by decide)) rfl (aj (aK (pv 0)) (aj (aA aD) aJ))) qM)) rfl) (aN (wX (i:=12) (j:=10) rfl cA.nd rfl rfl (by decide) rfl rfl (eU (bV (bA hr.aW) bW (aB (pv 1)) (aq (bf qz qL (aq (bf bM cz (aq (bf bM cz (aB (pv 11)) (aq (aA aD)))) (aq (bI aZ (hr.mono (by decide)) rfl (aj (aK (pv 0)) (aj (aA aD) aJ)))))) (aq (aA aD)))) (fun _ _=>rfl)) (eU (bV (bA hr.aW) bW (aB (pv 3)) (aq (bI aZ (hr.mono (by decide)) rfl (aj (aK (pv 0)) (aj (cH jk qO rfl T.m7 (by decide +kernel) (bu (aB (pv 3)) bR)) aJ)))) (fun _ _=>rfl)) qM)) rfl) (bK (qN (pv 5) (pG (aj (aK (pv 7)) (aj (bV (bA hr.aW) bW (aB (pv 1)) (aB (pv 11)) (fun _ _=>rfl)) (aj (aK (pv 12)) (aj (aK (pv 10)) (aj (bV (bA hr.aW) bW (aB (pv 8)) (aq (aA aD)) (fun _ _=>rfl)) (aj (bV (bA hr.aW) bW (aB (pv 8)) (aq (aA aD)) (fun _ _=>rfl)) (aj (bI BP (hr.mono (by decide)) rfl (aj (aK (pv 0)) aJ)) aJ))))))))))))) (aN (iT PassesOwn.never rfl (kh rfl T.jb (aq (bI jV (hr.mono (by decide)) rfl (aj (aK (pv 0)) (aj (aA aD) aJ))))) (cB (i:=13) cA.nd rfl (Or.inl rfl)) dM (aN (wX (i:=14) (j:=15) rfl cA.nd rfl rfl (by decide) rfl rfl (eU (pG (aj (bV (bA hr.aW) bW (aB (pv 3)) (aq (bI aZ (hr.mono (by decide)) rfl (aj (aK (pv 0)) (aj (cH jk qO rfl T.m7 (by decide +kernel) (bu (aB (pv 3)) bR)) aJ)))) (fun _ _=>rfl)) (aj (bI BP (hr.mono (by decide)) rfl (aj (aK (pv 0)) aJ)) aJ))) (eU (cC aJ) qM)) rfl) (aN (iT PassesOwn.never rfl (kh rfl T.jb (aq (bI jV (hr.mono (by decide)) rfl (aj (aK (pv 0)) (aj (aA aD) aJ))))) (cB (i:=16) cA.nd rfl (Or.inl rfl)) dM (aN (cP (i:=17) cA.nd rfl (Or.inl rfl) (bV (bA hr.aW) bW (aq (bf bM cz (aq (cC (aj (aA oX) (aj (aA oX) aJ)))) (aB (pv 3)))) (aq (bI aZ (hr.mono (by decide)) rfl (aj (aK (pv 0)) (aj (bf bM cz (aq (aA aD)) (aq (cH jk qO rfl T.m7 (by decide +kernel) (bu (aB (pv 3)) bR)))) aJ)))) (fun _ _=>rfl))) (bK (qN (pv 15) (pG (aj (bf bM cz (aq (aA aD)) (aq (bI aZ (hr.mono (by decide)) rfl (aj (aK (pv 0)) (aj (bV (bA hr.aW) bW (aq (cC (aj (aA aD) (aj (aA aD) aJ)))) (aq (bI aZ (hr.mono (by decide)) rfl (aj (aK (pv 0)) (aj (aA aD) aJ)))) (fun _ _=>rfl)) aJ))))) (aj (aK (pv 17)) aJ))))))) (bK (Bg hr.aW (pv 6) (aB (pv 14)) (j7 gK pK rfl T.gR (by decide +kernel) (bu (aB (pv 15)) bR))))))) (aN (wY (i:=18) (T:=.one) (NT:=(["_law_key"]:List Str)) (NF:=(["_law_rules"]:List Str)) (js:=[6]) (tU.ok (N0:=(["_law_box_here","_law_names_here","_law_parts_here","_law_own","_law_ranks","_law_leaves","_law_rules","_law_number","_law_days_here","_law_who","_law_where","_law_at","_law_taker","_law_k","_law_key","_law_seats","_law_j","_law_part","_law_rows"]:List Str)) (Ck:=aL jG) (by decide +kernel) rfl rfl) (⟨_,⟨_,rfl⟩,rfl⟩) rfl (Bj (aq (cH (nU rfl) sH rfl T.gP (by decide +kernel) (bu (aB (pv 6)) bR)))) (fun b=>⟨lK,(bf bM cz (aB (pv 0)) (aq (pG (aj (bV (bA hr.aW) bW (aB (pv 1)) (aB (pv 0)) (fun _ _=>rfl)) aJ))))⟩) (by rfl) cA.nd rfl rfl) (bK (fW (pG (aj (aK (pv 2)) (aj (pG (aj (j7 gK pK rfl T.gR (by decide +kernel) (bu (aq (cH (nU rfl) sH rfl T.gP (by decide +kernel) (bu (aB (pv 2)) bR))) bR)) (aj (j7 gK pK rfl T.gR (by decide +kernel) (bu (aB (pv 4)) bR)) (aj (j7 gK pK rfl T.gR (by decide +kernel) (bu (aB (pv 5)) bR)) (aj (j7 gK pK rfl T.gR (by decide +kernel) (bu (aB (pv 18)) bR)) aJ))))) aJ)))))))))))
theorem Pz {P:Program} {w:World} {K:PySem.W.Frag} {mg:Str→Option Value} {base:Heap} {f:Addr} {fd:FuncData} (n:Nat) (F:yF K "_law_same" "_law_same" lO f fd) (T:Txt K mg) (sZ:nA P w K mg base "_law_same" n (["_law_found","_law_due"]:List Str) (spT K (jc n))):gJ P w K mg base uY (n + 1) f fd (["_law_found","_law_due"]:List Str) (spT K (jc (n + 1))):=
 kE (body:=BK (jc n)) F Pr fun cdv A outer s H E hr=>(aN (pH (fJ Mf NZ (aB (pv 1)) (aq (aA Lr)) (d9 _)) (bK (fW (ue Mf NZ (aB (pv 0)) (aq (aA Lr)) (d9 _)))) j8) (aN (pH (Az (aq (mC (by decide) (aB (pv 1)) (gQ (v:=.ty "bool") rfl T.qW (by decide +kernel) rfl) rfl T.bN (by decide +kernel)))) (bK (fW (wU (mC (by decide) (aB (pv 0)) (gQ (v:=.ty "bool") rfl T.qW (by decide +kernel) rfl) rfl T.bN (by decide +kernel)) (Bb (ue (pF hr.units) uL (aB (pv 0)) (aB (pv 1)) (d9 _)))))) j8) (aN (pH (Az (aq (RK (by decide) (by decide) (aB (pv 1)) (gQ (v:=.ty "list") rfl T.pO (by decide +kernel) rfl) (gQ (v:=.ty "tuple") rfl T.gR (by decide +kernel) rfl) rfl T.bN (by decide +kernel)))) (aN (pH (PW.pt (Yq (fJ (wN hr.units) Dv (aq (mC (by decide) (aB (pv 0)) (gQ (v:=.ty "list") rfl T.pO (by decide +kernel) rfl) rfl T.bN (by decide +kernel))) (aq (mC (by decide) (aB (pv 1)) (gQ (v:=.ty "list") rfl T.pO (by decide +kernel) rfl) rfl T.bN (by decide +kernel))) (d9 _)) (V3 (fJ (wN hr.units) Dv (aq (mC (by decide) (aB (pv 0)) (gQ (v:=.ty "tuple") rfl T.gR (by decide +kernel) rfl) rfl T.bN (by decide +kernel))) (aq (mC (by decide) (aB (pv 1)) (gQ (v:=.ty "tuple") rfl T.gR (by decide +kernel) rfl) rfl T.bN (by decide +kernel))) (d9 _))))) (bK (fW (aA Cr))) j8) (bK (fW (wU (ue (pF hr.units) uL (aq (cH jk qO rfl T.m7 (by decide +kernel) (bu (aB (pv 0)) bR))) (aq (cH jk qO rfl T.m7 (by decide +kernel) (bu (aB (pv 1)) bR))) (d9 _)) (Bb (cH (MP rfl) Wi rfl T.Ex (by decide +kernel) (bu (aq (su (T:=(.many 2)) (NT:=(["_law_one","_law_other"]:List Str)) (NF:=([]:List Str)) (js:=[]) (tU.ok (N0:=(["_law_found","_law_due"]:List Str)) (Ck:=aL lO) (by decide +kernel) rfl rfl) (⟨_,_,_,rfl,(.cons ⟨_,rfl⟩ (.cons ⟨_,rfl⟩ .nil)),rfl⟩) rfl (Wm rfl T.Ez (bu (aB (pv 0)) (bu (aB (pv 1)) bR))) (fun b=>⟨lK,(bI sZ hr rfl (aj (aK (pv 0)) (aj (aK (pv 1)) aJ)))⟩))) bR))))))) j8) (aN (pH (Az (aq (mC (by decide) (aB (pv 1)) (gQ (v:=.ty "str") rfl T.zM (by decide +kernel) rfl) rfl T.bN (by decide +kernel)))) (bK (fW (wU (mC (by decide) (aB (pv 0)) (gQ (v:=.ty "str") rfl T.zM (by decide +kernel) rfl) rfl T.bN (by decide +kernel)) (Bb (ue (pF hr.units) uL (aB (pv 0)) (aB (pv 1)) (d9 _)))))) j8) (bK (fW (wU (mC (by decide) (aB (pv 0)) (gQ (v:=.ty "int") rfl T.zK (by decide +kernel) rfl) rfl T.bN (by decide +kernel)) (wU (V4 (mC (by decide) (aB (pv 0)) (gQ (v:=.ty "bool") rfl T.qW (by decide +kernel) rfl) rfl T.bN (by decide +kernel))) (Bb (ue (pF hr.units) uL (aB (pv 0)) (aB (pv 1)) (d9 _)))))))))))
theorem zP {P:Program} {w:World} {K:PySem.W.Frag} {mg:Str→Option Value} {base:Heap} {f:Addr} {fd:FuncData} (hm:mg "_law_same"=some (.ref f)) (hk:PySem.W.keepIn K (.ref f)=true) (hb:Binds K fd (["_law_found","_law_due"]:List Str) []) (F:yF K "_law_same" "_law_same" lO f fd) (T:Txt K mg):
  ∀n,nA P w K mg base "_law_same" n (["_law_found","_law_due"]:List Str) (spT K (jc n))
 | 0=>⟨f,fd,hm,hk,hb,R4⟩
 | n + 1=>⟨f,fd,hm,hk,hb,Pz n F T (zP hm hk hb F T n)⟩
theorem PJ {P:Program} {w:World} {K:PySem.W.Frag} {mg:Str→Option Value} {base:Heap} {f:Addr} {fd:FuncData} (F:yF K "_law_over" "_law_over" qe f fd) (T:Txt K mg):gJ P w K mg base uY 1 f fd (["_law_parts_here"]:List Str) (spT K qg):=
 kE (body:=BL) F sV fun cdv A outer s H E hr=>(aN (cP (i:=1) sV.nd rfl (Or.inl rfl) DK) (aN (iT PassesOwn.never rfl (Ul (aK (pv 0))) (vQ rfl (fO (cB (i:=2) sV.nd rfl (Or.inl rfl)) (fO (cB (i:=3) sV.nd rfl (Or.inl rfl)) rD))) (GZ (mV dM (mV dM Be))) (bK (Bg hr.aW (pv 1) (aB (pv 2)) (bf bM cz (aq (cC (aj (aK (pv 2)) aJ))) (aq (OJ hr.aW (aB (pv 1)) (aB (pv 3)) (cC aJ) ⟨rfl,rfl,rfl,rfl⟩)))))) (bK (pZ (pv 1)))))
theorem PK {P:Program} {w:World} {K:PySem.W.Frag} {mg:Str→Option Value} {base:Heap} {f:Addr} {fd:FuncData} (F:yF K "_law_days" "_law_days" oh f fd) (T:Txt K mg) (mF:nA P w K mg base "_law_day" 2 (["_law_box_here"]:List Str) (spT K fG)):gJ P w K mg base uY 3 f fd (["_law_box_here","_law_house_here"]:List Str) (spT K oG):=
 kE (body:=JB) F sW fun cdv A outer s H E hr=>(aN (cP (i:=2) sW.nd rfl (Or.inl rfl) (cC (aj (aA aD) (aj (bI mF (hr.mono (by decide)) rfl (aj (aK (pv 0)) aJ)) (aj (bI mF (hr.mono (by decide)) rfl (aj (aK (pv 0)) aJ)) aJ))))) (aN (iT PassesOwn.never rfl (K1 (bf bM cz (aq (Ei (aq (bV (bA hr.aW) bW (aB (pv 1)) (aq (aA aD)) (fun _ _=>rfl))) Eg (Eh (aq (aA aD))))) (aq (Ei (aq (bV (bA hr.aW) bW (aB (pv 1)) (aq (aA aD)) (fun _ _=>rfl))) (Eh (aq (V5 (aq (aA aD))))) Eg)))) (cB (i:=3) sW.nd rfl (Or.inl rfl)) dM (bK (cP (i:=2) sW.nd rfl (Or.inl rfl) (bf bM cz (aB (pv 2)) (aq (cC (aj (bV (bA hr.aW) bW (aB (pv 3)) (aq (aA aD)) (fun _ _=>rfl)) (aj (bV (bA hr.aW) bW (aB (pv 3)) (aq (aA aD)) (fun _ _=>rfl)) (aj (bf Fq GK (aq (bV (bA hr.aW) bW (aB (pv 3)) (aq (aA aD)) (fun _ _=>rfl))) (aq (aA aD))) (aj (bf bM cz (aq (bV (bA hr.aW) bW (aB (pv 3)) (aq (aA aD)) (fun _ _=>rfl))) (aq (aA aD))) aJ)))))))))) (bK (fW (RL rfl (aq (su (T:=.one) (NT:=(["_law_day_here"]:List Str)) (NF:=([]:List Str)) (js:=[]) (tU.ok (N0:=(["_law_box_here","_law_house_here","_law_days_here","_law_row"]:List Str)) (Ck:=aL oh) (by decide +kernel) rfl rfl) (⟨_,⟨_,rfl⟩,rfl⟩) rfl (Bj (aB (pv 2))) (fun b=>⟨(sr (Ob wO Dw (qG hr.FP) NP (aq (aA aD)) (aB (pv 0)) (aq (aA aD)))),(aK (pv 0))⟩))) rfl T.gP rfl T.zL)))))
theorem Wr {P:Program} {w:World} {K:PySem.W.Frag} {mg:Str→Option Value} {base:Heap} {f:Addr} {fd:FuncData} (F:yF K "law" "law" oR f fd) (T:Txt K mg) (nu:nA P w K mg base "rank_of" 2 (["house","person","part","day"]:List Str) (spT K fD)) (Hu:nA P w K mg base "_law_box" 1 (["_law_script","_law_k"]:List Str) (spT K qX)) (yo:nA P w K mg base "_law_names" 2 (["_law_box_here","_law_many_here"]:List Str) (spT K lA)) (yp:nA P w K mg base "_law_house" 4 (["_law_box_here","_law_names_here"]:List Str) (spT K lC)) (sZ:nA P w K mg base "_law_same" 3 (["_law_found","_law_due"]:List Str) (spT K (jc 3))) (BR:nA P w K mg base "_law_over" 1 (["_law_parts_here"]:List Str) (spT K qg)) (BV:nA P w K mg base "_law_days" 3 (["_law_box_here","_law_house_here"]:List Str) (spT K oG)):gJ P w K mg base uY 6 f fd (["_law_script"]:List Str) (spT K zO):=
 kE (body:=Pu) F gr fun cdv A outer s H E hr=>(aN (iT PassesOwn.never rfl (kh rfl T.jb (aq (bf bM cz (aq (aA aD)) (aq (cH (J2 rfl) RJ rfl T.Ey (by decide +kernel) (bu (aq (aA aD)) (bu (aq (Jm (pv 0) rfl T.m7 (by decide +kernel))) bR))))))) (cB (i:=1) gr.nd rfl (Or.inl rfl)) dM (aN (Wb (i:=2) gr.nd rfl (Or.inl rfl) (bI Hu (hr.mono (by decide)) rfl (aj (aK (pv 0)) (aj (aK (pv 1)) aJ)))) (aN (cP (i:=3) gr.nd rfl (Or.inl rfl) (bI yo (hr.mono (by decide)) rfl (aj (aK (pv 2)) (aj (aA aD) aJ)))) (aN (V9 (bI yp (hr.mono (by decide)) rfl (aj (aK (pv 2)) (aj (aK (pv 3)) aJ))) (vQ rfl (fO (cB (i:=4) gr.nd rfl (Or.inl rfl)) (fO (cB (i:=5) gr.nd rfl (Or.inl rfl)) rD))) (GZ (mV dM (mV dM Be)))) (aN (Jh (is:=[6,7]) (eU (cH (za hr.gd hr.units) Jo rfl T.uE (by decide +kernel) (bu (aB (pv 5)) bR)) (eU (bI BR (hr.mono (by decide)) rfl (aj (aK (pv 4)) aJ)) qM)) (vQ rfl (fO (cB (i:=6) gr.nd rfl (Or.inl rfl)) (fO (cB (i:=7) gr.nd rfl (Or.inr rfl)) rD)))) (aN (cP (i:=8) gr.nd rfl (Or.inl rfl) (RM rfl (aq (bf bM cz (aq (bf bM cz (aq (su (T:=.one) (NT:=(["_law_row"]:List Str)) (NF:=([]:List Str)) (js:=[]) (tU.ok (N0:=(["_law_script","_law_k","_law_box_here","_law_names_here","_law_parts_here","_law_house_here","_law_kept","_law_over_here","_law_people","_law_day_here","_law_person","_law_held","_law_part","_law_due","_law_within","_law_above"]:List Str)) (Ck:=aL oR) (by decide +kernel) rfl rfl) (⟨_,⟨_,rfl⟩,rfl⟩) rfl (Bj (aq (bV (bA hr.aW) bW (aB (pv 5)) (aq (aA aD)) (fun _ _=>rfl)))) (fun b=>⟨lK,(bV (bA hr.aW) bW (aB (pv 0)) (aq (aA aD)) (fun _ _=>rfl))⟩))) (aq (Ei (aB (pv 3)) Eg (Eh (aq (aA aD))))))) (aq (cC (aj (aA oX) aJ))))) rfl T.gP rfl T.zL)) (aN (iT PassesOwn.never rfl (K1 (bI BV (hr.mono (by decide)) rfl (aj (aK (pv 2)) (aj (aK (pv 5)) aJ)))) (cB (i:=9) gr.nd rfl (Or.inr rfl)) dM (bK (iT PassesOwn.never rfl (K1 (aK (pv 8))) (cB (i:=10) gr.nd rfl (Or.inr rfl)) dM (aN (wY (i:=11) (T:=.one) (NT:=(["_law_row"]:List Str)) (NF:=(["_law_person","_law_day_here"]:List Str)) (js:=[10,9]) (tU.ok (N0:=(["_law_script","_law_k","_law_box_here","_law_names_here","_law_parts_here","_law_house_here","_law_kept","_law_over_here","_law_people","_law_day_here","_law_person","_law_held","_law_part","_law_due","_law_within","_law_above"]:List Str)) (Ck:=aL oR) (by decide +kernel) rfl rfl) (⟨_,⟨_,rfl⟩,rfl⟩) rfl (Bj (aq (bV (bA hr.aW) bW (aB (pv 5)) (aq (aA aD)) (fun _ _=>rfl)))) (fun b=>⟨(sr (PW.pt (wR (fJ (pF hr.units) uL (aq (bV (bA hr.aW) bW (aB (pv 0)) (aq (aA aD)) (fun _ _=>rfl))) (aB (pv 1)) (d9 _)) (wR (fJ wO Dw (aq (bV (bA hr.aW) bW (aB (pv 0)) (aq (aA aD)) (fun _ _=>rfl))) (aB (pv 2)) (d9 _)) (Ba (fJ wO Dw (aB (pv 2)) (aq (bV (bA hr.aW) bW (aB (pv 0)) (aq (aA aD)) (fun _ _=>rfl))) (d9 _))))))),(aK (pv 0))⟩) (by rfl) gr.nd rfl rfl) (aN (iT PassesOwn.never rfl (K1 (bf bM cz (aq (j7 (Hg rfl) O3 rfl T.pO (by decide +kernel) (bu (aB (pv 7)) bR))) (aq (cC (aj (aA oX) aJ))))) (cB (i:=12) gr.nd rfl (Or.inr rfl)) dM (aN (cP (i:=13) gr.nd rfl (Or.inl rfl) (cH (Hf rfl) RW rfl T.xW (by decide +kernel) (bu (aq (bf bM cz (aq (cC (aj (aA aD) aJ))) (aq (su (T:=.one) (NT:=(["_law_row"]:List Str)) (NF:=(["_law_over_here","_law_part"]:List Str)) (js:=[7,12]) (tU.ok (N0:=(["_law_script","_law_k","_law_box_here","_law_names_here","_law_parts_here","_law_house_here","_law_kept","_law_over_here","_law_people","_law_day_here","_law_person","_law_held","_law_part","_law_due","_law_within","_law_above"]:List Str)) (Ck:=aL oR) (by decide +kernel) rfl rfl) (⟨_,⟨_,rfl⟩,rfl⟩) rfl (Bj (aB (pv 11))) (fun b=>⟨(sr (fJ (GX hr.aW) N6 (aq (bV (bA hr.aW) bW (aB (pv 0)) (aq (aA aD)) (fun _ _=>rfl))) (aq (OJ hr.aW (aB (pv 1)) (aB (pv 2)) (cC aJ) ⟨rfl,rfl,rfl,rfl⟩)) (by with_unfolding_all rfl))),(bV (bA hr.aW) bW (aB (pv 0)) (aq (aA aD)) (fun _ _=>rfl))⟩))))) bR))) (bK (pH (V2 (Az (aq (bI sZ (hr.mono (by decide)) rfl (aj (bI nu (hr.mono (by decide)) rfl (aj (aK (pv 5)) (aj (aK (pv 10)) (aj (aK (pv 12)) (aj (aK (pv 9)) aJ))))) (aj (aK (pv 13)) aJ)))))) (bK (fW (aA Cr))) j8)))) (bK (iT PassesOwn.never rfl (Ul (aK (pv 4))) (vQ rfl (fO (cB (i:=12) gr.nd rfl (Or.inr rfl)) (fO (cB (i:=14) gr.nd rfl (Or.inl rfl)) rD))) (GZ (mV dM (mV dM Be))) (aN (cP (i:=15) gr.nd rfl (Or.inl rfl) (Ub (fJ (wN hr.units) Dv (aB (pv 14)) (aq (aA oX)) (d9 _)) (bI nu (hr.mono (by decide)) rfl (aj (aK (pv 5)) (aj (aK (pv 10)) (aj (aK (pv 14)) (aj (aK (pv 9)) aJ))))) (aA aD))) (bK (pH (fJ (qG hr.FP) NP (aq (bI nu (hr.mono (by decide)) rfl (aj (aK (pv 5)) (aj (aK (pv 10)) (aj (aK (pv 12)) (aj (aK (pv 9)) aJ)))))) (aB (pv 15)) (d9 _)) (bK (fW (aA Cr))) j8)))))))))) (bK (pH (fJ (wN hr.units) Dv (aq (cH (za hr.gd hr.units) Jo rfl T.uE (by decide +kernel) (bu (aB (pv 5)) bR))) (aB (pv 6)) (d9 _)) (bK (fW (aA Cr))) j8))))))))) (bK (fW (aA Cr))))
end pN
set_option maxHeartbeats 4000000
namespace pN
open PySem L2
theorem cO {C:Ce} {b:Nat} {n m:Int} (h:Bx C b n) (hn:n≤900000) (h0:0 < m) (h1:m < 1073741824):
  ∃k C',aM [.ce b,.im (.int m)] C=some (.im (.int k),C')∧0≤k∧k < m∧Bx C' b (n + 1)∧C'.length=C.length:=by
 obtain ⟨x,y,z,hc,hx,hy,hy2,hz,hz2⟩:=h
 by_cases hp:0 < x
 ·refine ⟨x % m,C.set b [x / m,y,z],?_,Int.emod_nonneg _ (by omega),Int.emod_lt_of_pos _ h0,⟨x / m,y,z,Br hc,Int.ediv_nonneg hx (by omega),hy,hy2,hz,by omega⟩,by simp⟩
  have hm:(0 < m∧m < 1073741824)=True:=by simp; omega
  simp [aM,fN,vJ,bw,dI,b7,aC,gn,ao,dat,az,au,bQ,yM,still,zu,cX,dm,hc,j0,oV,NQ,hp,jB,h0,uf,hm,h1,rst,jW,dZ,Br hc,take_set]
 ·have p1:(y + 39373 * (z + 1)).natAbs < 2 ^ 64:=by omega
  have o0:0≤(y + 39373 * (z + 1)) ^ 5 % 2147483647:=Int.emod_nonneg _ (by omega)
  have o1:(y + 39373 * (z + 1)) ^ 5 % 2147483647 < 2147483647:=Int.emod_lt_of_pos _ (by omega)
  generalize ho:(y + 39373 * (z + 1)) ^ 5 % 2147483647=once at o0 o1
  refine ⟨(once * (once % 40009 + 7) + (z + 1) * 7919) % 2147483629 / 64 % m,C.set b [x,y,z + 1],?_,Int.emod_nonneg _ (by omega),Int.emod_lt_of_pos _ h0,⟨x,y,z + 1,Br hc,hx,hy,hy2,by omega,by omega⟩,by simp⟩
  have m1:iQ (.int 39373) (.int (z + 1))=some (.im (.int (39373 * (z + 1)))):=mul_eq (.inl (by omega))
  have m2:iQ (.int once) (.int (once % 40009 + 7))=some (.im (.int (once * (once % 40009 + 7)))):=mul_eq (.inl (by omega))
  have m3:iQ (.int (z + 1)) (.int 7919)=some (.im (.int ((z + 1) * 7919))):=mul_eq (.inr (by omega))
  have pw:oO (.int (y + 39373 * (z + 1))) (.int 5)=some (.im (.int ((y + 39373 * (z + 1)) ^ 5))):=pow_eq (by omega) (by omega) p1
  simp [aM,fN,vJ,bw,dI,b7,aC,gn,ao,dat,az,au,bQ,yM,still,zu,cX,dm,hc,j0,oV,NQ,hp,jB,h0,uf,rst,jW,dZ,Br hc,take_set,aQ,m1,m2,m3,pw,cD,ho]
end pN
set_option maxHeartbeats 4000000
namespace pN
open PySem L2
theorem Ws {C:Ce} {b:Nat} {n:Int} (h:Bx C b n) (hn:n≤800000):
  ∃k C',fG [.ce b] C=some (.im (.int k),C')∧0≤k∧k≤99999∧Bx C' b (n + 4)∧C'.length=C.length:=by
 obtain ⟨k1,C1,e1,a1,b1,h1,l1⟩:=cO (m:=6) h (by omega) (by omega) (by omega)
 obtain ⟨k2,C2,e2,a2,b2,h2,l2⟩:=cO (m:=12) h1 (by omega) (by omega) (by omega)
 obtain ⟨k3,C3,e3,a3,b3,h3,l3⟩:=cO (m:=40) h2 (by omega) (by omega) (by omega)
 obtain ⟨k4,C4,e4,a4,b4,h4,l4⟩:=cO (m:=99999) h3 (by omega) (by omega) (by omega)
 have l:C4.length=C.length:=by omega
 have hk:k1=0∨k1=1∨k1=2∨k1=3∨k1=4∨k1=5:=by omega
 have h4':Bx C4 b (n + 4):=h4.mono (by omega)
 rcases hk with rfl | rfl | rfl | rfl | rfl | rfl
 ·exact ⟨k2,C4,by simp [fG,pP,fN,bw,dI,b7,gM,aC,gn,ir,cY,ao,dat,az,au,aH,bQ,dm,cX,still,aU,aa,aG,aP,bF,bT,bH,fQ,dG,bC,rst,jW,dX,dZ,cD,fX,setM,iR,qw,bO,dH,gh,aR,nJ,iG,cN,je,dY,dj,jT,eF,fU,fB,iW,eE,dz,isNone,cI,lN,lM,lG,gO,iH,d7,dB,fY,eG,iI,intsOf,e1,e2,e3,e4,jg,jA,j0,oV,cQ l],a2,by omega,h4',l⟩
 ·exact ⟨k2,C4,by simp [fG,pP,fN,bw,dI,b7,gM,aC,gn,ir,cY,ao,dat,az,au,aH,bQ,dm,cX,still,aU,aa,aG,aP,bF,bT,bH,fQ,dG,bC,rst,jW,dX,dZ,cD,fX,setM,iR,qw,bO,dH,gh,aR,nJ,iG,cN,je,dY,dj,jT,eF,fU,fB,iW,eE,dz,isNone,cI,lN,lM,lG,gO,iH,d7,dB,fY,eG,iI,intsOf,e1,e2,e3,e4,jg,jA,j0,oV,cQ l],a2,by omega,h4',l⟩
 ·exact ⟨k2,C4,by simp [fG,pP,fN,bw,dI,b7,gM,aC,gn,ir,cY,ao,dat,az,au,aH,bQ,dm,cX,still,aU,aa,aG,aP,bF,bT,bH,fQ,dG,bC,rst,jW,dX,dZ,cD,fX,setM,iR,qw,bO,dH,gh,aR,nJ,iG,cN,je,dY,dj,jT,eF,fU,fB,iW,eE,dz,isNone,cI,lN,lM,lG,gO,iH,d7,dB,fY,eG,iI,intsOf,e1,e2,e3,e4,jg,jA,j0,oV,cQ l],a2,by omega,h4',l⟩
 ·exact ⟨k3,C4,by simp [fG,pP,fN,bw,dI,b7,gM,aC,gn,ir,cY,ao,dat,az,au,aH,bQ,dm,cX,still,aU,aa,aG,aP,bF,bT,bH,fQ,dG,bC,rst,jW,dX,dZ,cD,fX,setM,iR,qw,bO,dH,gh,aR,nJ,iG,cN,je,dY,dj,jT,eF,fU,fB,iW,eE,dz,isNone,cI,lN,lM,lG,gO,iH,d7,dB,fY,eG,iI,intsOf,e1,e2,e3,e4,jg,jA,j0,oV,cQ l],a3,by omega,h4',l⟩
 ·exact ⟨k3,C4,by simp [fG,pP,fN,bw,dI,b7,gM,aC,gn,ir,cY,ao,dat,az,au,aH,bQ,dm,cX,still,aU,aa,aG,aP,bF,bT,bH,fQ,dG,bC,rst,jW,dX,dZ,cD,fX,setM,iR,qw,bO,dH,gh,aR,nJ,iG,cN,je,dY,dj,jT,eF,fU,fB,iW,eE,dz,isNone,cI,lN,lM,lG,gO,iH,d7,dB,fY,eG,iI,intsOf,e1,e2,e3,e4,jg,jA,j0,oV,cQ l],a3,by omega,h4',l⟩
 ·exact ⟨99999 - k4,C4,by simp [fG,pP,fN,bw,dI,b7,gM,aC,gn,ir,cY,ao,dat,az,au,aH,bQ,dm,cX,still,aU,aa,aG,aP,bF,bT,bH,fQ,dG,bC,rst,jW,dX,dZ,cD,fX,setM,iR,qw,bO,dH,gh,aR,nJ,iG,cN,je,dY,dj,jT,eF,fU,fB,iW,eE,dz,isNone,cI,lN,lM,lG,gO,iH,d7,dB,fY,eG,iI,intsOf,e1,e2,e3,e4,jg,jA,j0,oV,cQ l],by omega,by omega,h4',l⟩
theorem Wt {C:Ce} {b:Nat} {n:Int} (h:Bx C b n) (hn:n≤800000):
  ∃k C',jP [.ce b] C=some (.im (.int k),C')∧0≤k∧k≤1000000000∧Bx C' b (n + 4)∧C'.length=C.length:=by
 obtain ⟨k2,C2,e2,a2,b2,h2,l2⟩:=cO (m:=9) h (by omega) (by omega) (by omega)
 obtain ⟨k3,C3,e3,a3,b3,h3,l3⟩:=cO (m:=20) h2 (by omega) (by omega) (by omega)
 obtain ⟨k4,C4,e4,a4,b4,h4,l4⟩:=cO (m:=3) h3 (by omega) (by omega) (by omega)
 obtain ⟨k1,C1,e1,a1,b1,h1,l1⟩:=cO (m:=5) h4 (by omega) (by omega) (by omega)
 have l:C1.length=C.length:=by omega
 have hk:k1=0∨k1=1∨k1=2∨k1=3∨k1=4:=by omega
 have h4':Bx C1 b (n + 4):=h1.mono (by omega)
 have m1:iQ (.int 10) (.int k3)=some (.im (.int (10 * k3))):=mul_eq (.inl (by omega))
 have pw:oO (.int 10) (.int 9)=some (.im (.int 1000000000)):=by rfl
 rcases hk with rfl | rfl | rfl | rfl | rfl
 ·exact ⟨k2,C1,by simp [jP,qY,fN,bw,dI,b7,gM,aC,gn,ir,cY,ao,dat,az,au,aH,bQ,dm,cX,still,aU,aa,aG,aP,bF,bT,bH,fQ,dG,bC,rst,jW,dX,dZ,cD,fX,setM,iR,qw,bO,dH,gh,aR,nJ,iG,cN,je,dY,dj,jT,eF,fU,fB,iW,eE,dz,isNone,cI,lN,lM,lG,gO,iH,d7,dB,fY,eG,iI,intsOf,e1,e2,e3,e4,jg,jA,j0,oV,m1,pw,cQ l],a2,by omega,h4',l⟩
 ·exact ⟨10 * k3,C1,by simp [jP,qY,fN,bw,dI,b7,gM,aC,gn,ir,cY,ao,dat,az,au,aH,bQ,dm,cX,still,aU,aa,aG,aP,bF,bT,bH,fQ,dG,bC,rst,jW,dX,dZ,cD,fX,setM,iR,qw,bO,dH,gh,aR,nJ,iG,cN,je,dY,dj,jT,eF,fU,fB,iW,eE,dz,isNone,cI,lN,lM,lG,gO,iH,d7,dB,fY,eG,iI,intsOf,e1,e2,e3,e4,jg,jA,j0,oV,m1,pw,cQ l],by omega,by omega,h4',l⟩
 ·exact ⟨10 * k3,C1,by simp [jP,qY,fN,bw,dI,b7,gM,aC,gn,ir,cY,ao,dat,az,au,aH,bQ,dm,cX,still,aU,aa,aG,aP,bF,bT,bH,fQ,dG,bC,rst,jW,dX,dZ,cD,fX,setM,iR,qw,bO,dH,gh,aR,nJ,iG,cN,je,dY,dj,jT,eF,fU,fB,iW,eE,dz,isNone,cI,lN,lM,lG,gO,iH,d7,dB,fY,eG,iI,intsOf,e1,e2,e3,e4,jg,jA,j0,oV,m1,pw,cQ l],by omega,by omega,h4',l⟩
 ·exact ⟨10 * k3,C1,by simp [jP,qY,fN,bw,dI,b7,gM,aC,gn,ir,cY,ao,dat,az,au,aH,bQ,dm,cX,still,aU,aa,aG,aP,bF,bT,bH,fQ,dG,bC,rst,jW,dX,dZ,cD,fX,setM,iR,qw,bO,dH,gh,aR,nJ,iG,cN,je,dY,dj,jT,eF,fU,fB,iW,eE,dz,isNone,cI,lN,lM,lG,gO,iH,d7,dB,fY,eG,iI,intsOf,e1,e2,e3,e4,jg,jA,j0,oV,m1,pw,cQ l],by omega,by omega,h4',l⟩
 ·exact ⟨1000000000 - k4,C1,by simp [jP,qY,fN,bw,dI,b7,gM,aC,gn,ir,cY,ao,dat,az,au,aH,bQ,dm,cX,still,aU,aa,aG,aP,bF,bT,bH,fQ,dG,bC,rst,jW,dX,dZ,cD,fX,setM,iR,qw,bO,dH,gh,aR,nJ,iG,cN,je,dY,dj,jT,eF,fU,fB,iW,eE,dz,isNone,cI,lN,lM,lG,gO,iH,d7,dB,fY,eG,iI,intsOf,e1,e2,e3,e4,jg,jA,j0,oV,m1,pw,cQ l],by omega,by omega,h4',l⟩
theorem tB {C:Ce} {b:Nat} {n m:Int} (h:Bx C b n) (hn:n≤800000) (h0:0≤m) (h1:m≤1000):
  ∃k C',eX [.ce b,.im (.int m)] C=some (.im (.int k),C')∧0≤k∧k≤m∧Bx C' b (n + 2)∧C'.length=C.length:=by
 obtain ⟨k1,C1,e1,a1,b1,h1',l1⟩:=cO (m:=3) h (by omega) (by omega) (by omega)
 by_cases hk:k1=0
 ·subst hk
  exact ⟨m,C1,by simp [eX,vK,fN,bw,dI,b7,gM,aC,gn,ir,cY,ao,dat,az,au,aH,bQ,dm,cX,still,aU,aa,aG,aP,bF,bT,bH,fQ,dG,bC,rst,jW,dX,dZ,cD,fX,setM,iR,qw,bO,dH,gh,aR,nJ,iG,cN,je,dY,dj,jT,eF,fU,fB,iW,eE,dz,isNone,cI,lN,lM,lG,gO,iH,d7,dB,fY,eG,iI,intsOf,e1,nH,NK,cQ l1],h0,by omega,h1'.mono (by omega),l1⟩
 ·obtain ⟨k2,C2,e2,a2,b2,h2,l2⟩:=cO (m:=m + 1) h1' (by omega) (by omega) (by omega)
  exact ⟨k2,C2,by simp [eX,vK,fN,bw,dI,b7,gM,aC,gn,ir,cY,ao,dat,az,au,aH,bQ,dm,cX,still,aU,aa,aG,aP,bF,bT,bH,fQ,dG,bC,rst,jW,dX,dZ,cD,fX,setM,iR,qw,bO,dH,gh,aR,nJ,iG,cN,je,dY,dj,jT,eF,fU,fB,iW,eE,dz,isNone,cI,lN,lM,lG,gO,iH,d7,dB,fY,eG,iI,intsOf,e1,e2,nH,NK,show (k1==0)=false from beq_eq_false_iff_ne.mpr hk,aQ,cQ (show C2.length=C.length by omega)],a2,by omega,h2.mono (by omega),by omega⟩
end pN
set_option maxHeartbeats 4000000
namespace pN
open PySem L2
theorem yq {C:Ce} {b:Nat} {n m:Int} (h:Bx C b n) (hn:n≤700000) (h0:0≤m) (h1:m≤100):
  ∃(ns:List Int) (C':Ce),fM [.ce b,.im (.int m)] C=some (.ow (.list (ns.map .int)),C')∧ns.length=m.toNat∧(∀x∈ns,0≤x∧x≤2000)∧ns.Pairwise (· < ·)∧Bx C' b (n + 2 * m)∧C'.length=C.length:=by
 obtain ⟨env',C',e,ns,nx,v4,he,hl,hr,hp,hx0,hx1,hB,hC⟩:=cZ (g:=gh 4) (body:=jx) (its:=nQ 0 m.toNat) (env:=[some (.ce b),some (.im (.int m)),some (.ow (.list [])),some (.im (.int 0)),none]) (C:=C)
  (fun i env C1=>∃(ns:List Int) (nx:Int) (v4:Option Vl),env=[some (.ce b),some (.im (.int m)),some (.ow (.list (ns.map .int))),some (.im (.int nx)),v4]∧ns.length=i∧(∀x∈ns,0≤x∧x < nx)∧ns.Pairwise (· < ·)∧0≤nx∧nx≤11 * i∧Bx C1 b (n + 2 * i)∧C1.length=C.length)
  ⟨[],0,none,rfl,rfl,(fun _ m=>nomatch m),List.Pairwise.nil,by omega,by omega,h.mono (by omega),rfl⟩ (fun i d env C1 hd hI=>by
   obtain ⟨ns,nx,v4,rfl,hl,hr,hp,hx0,hx1,hB,hC⟩:=hI
   obtain ⟨rfl,hi⟩:=nW hd
   obtain ⟨k1,C2,e1,a1,b1,mG,l1⟩:=cO (m:=9) hB (by omega) (by omega) (by omega)
   obtain ⟨k2,C3,e2,a2,b2,hB2,l2⟩:=cO (m:=3) mG (by omega) (by omega) (by omega)
   have hk:k2=0∨k2=1∨k2=2:=by omega
   have fin:∀y,0≤y→y≤9→jx [some (.ce b),some (.im (.int m)),some (.ow (.list (ns.map .int))),some (.im (.int nx)),some (.im (.int (0 + i)))] C1=some (.nx,[some (.ce b),some (.im (.int m)),some (.ow (.list ((ns++[nx + y]).map .int))),some (.im (.int (nx + y + 1))),some (.im (.int (0 + i)))],C3)→
     ∃e1 fl env' C',gh 4 (.int (0 + i)) [some (.ce b),some (.im (.int m)),some (.ow (.list (ns.map .int))),some (.im (.int nx)),v4]=some e1∧jx e1 C1=some (fl,env',C')∧(fl=.nx∨fl=.ct)∧
      ∃(ns:List Int) (nx:Int) (v4:Option Vl),env'=[some (.ce b),some (.im (.int m)),some (.ow (.list (ns.map .int))),some (.im (.int nx)),v4]∧ns.length=i + 1∧(∀x∈ns,0≤x∧x < nx)∧ns.Pairwise (· < ·)∧0≤nx∧nx≤11 * ((i + 1:Nat):Int)∧Bx C' b (n + 2 * ((i + 1:Nat):Int))∧C'.length=C.length:=fun y y0 y1 hy=>by
    refine ⟨_,.nx,_,C3,rfl,hy,.inl rfl,ns++[nx + y],nx + y + 1,_,rfl,by simp [hl],fun x hx=>?_,?_,by omega,by omega,hB2.mono (by omega),by omega⟩
    ·rcases List.mem_append.mp hx with hx | hx
     ·have:=hr x hx; omega
     ·rw [List.mem_singleton.mp hx]; omega
    ·rw [List.pairwise_append]
     refine ⟨hp,by simp,fun x hx z hz=>?_⟩
     rw [List.mem_singleton.mp hz]
     have:=hr x hx
     omega
   have lm:ns.length < 1000000:=by omega
   rcases hk with rfl | rfl | rfl
   ·exact fin 0 (by omega) (by omega) (by simp [fN,bw,dI,b7,gM,aC,gn,ir,cY,ao,dat,az,au,aH,bQ,dm,cX,still,aU,aa,aG,aP,bF,bT,bH,fQ,dG,bC,rst,jW,dX,dZ,cD,fX,setM,iR,qw,bO,dH,gh,aR,nJ,iG,cN,je,dY,dj,jT,eF,fU,fB,iW,eE,dz,isNone,cI,lN,lM,lG,gO,iH,d7,dB,fY,eG,iI,intsOf,e1,e2,aQ,j0,oV,jA,lm])
   ·exact fin 0 (by omega) (by omega) (by simp [fN,bw,dI,b7,gM,aC,gn,ir,cY,ao,dat,az,au,aH,bQ,dm,cX,still,aU,aa,aG,aP,bF,bT,bH,fQ,dG,bC,rst,jW,dX,dZ,cD,fX,setM,iR,qw,bO,dH,gh,aR,nJ,iG,cN,je,dY,dj,jT,eF,fU,fB,iW,eE,dz,isNone,cI,lN,lM,lG,gO,iH,d7,dB,fY,eG,iI,intsOf,e1,e2,aQ,j0,oV,jA,lm])
   ·exact fin (1 + k1) (by omega) (by omega) (by simp [fN,bw,dI,b7,gM,aC,gn,ir,cY,ao,dat,az,au,aH,bQ,dm,cX,still,aU,aa,aG,aP,bF,bT,bH,fQ,dG,bC,rst,jW,dX,dZ,cD,fX,setM,iR,qw,bO,dH,gh,aR,nJ,iG,cN,je,dY,dj,jT,eF,fU,fB,iW,eE,dz,isNone,cI,lN,lM,lG,gO,iH,d7,dB,fY,eG,iI,intsOf,e1,e2,aQ,j0,oV,jA,lm]))
 rw [mX] at hl hx1 hB
 refine ⟨ns,C',?_,hl,fun x hx=>?_,hp,hB.mono (by omega),hC⟩
 ·subst he
  have hm1:-4611686018427387904≤m:=by omega
  have hm2:m < 4611686018427387904:=by omega
  simp [fM,qZ,fN,bw,dI,b7,gM,aC,gn,ir,cY,ao,dat,az,au,aH,bQ,dm,cX,still,aU,aa,aG,aP,bF,bT,bH,fQ,dG,bC,rst,jW,dX,dZ,cD,fX,setM,iR,qw,bO,dH,gh,aR,nJ,iG,cN,je,dY,dj,jT,eF,fU,fB,iW,eE,dz,isNone,cI,lN,lM,lG,gO,iH,d7,dB,fY,eG,iI,intsOf,zx,hm1,hm2,jA,e,cQ hC]
 ·have:=hr x hx
  omega
theorem letters (k:Int) (h0:0≤k) (h1:k < 26):nJ (.str abc) (.int k)=some (.str ⟨#[97 + k.toNat]⟩):=by
 have e:=Wn h0 h1
 have hl:abc.length≤jA:=by decide +kernel
 simp only [nJ]
 rw [if_pos hl,e]
 rfl
theorem Lb (zs:List Str):(zs.map PyData.str).all iw=true:=by
 rw [List.all_map,List.all_eq_true]
 intro _ _
 rfl
theorem yr:∀zs:List Str,strsOf (zs.map PyData.str)=some zs
 | []=>rfl
 | z::zs=>by
  show (match strsOf (zs.map PyData.str) with | some t=>some (z::t) | none=>none)=_
  rw [yr zs]
theorem oK:∀ns:List Int,intsOf (ns.map PyData.int)=some ns
 | []=>rfl
 | n::ns=>by
  show (match intsOf (ns.map PyData.int) with | some t=>some (n::t) | none=>none)=_
  rw [oK ns]
theorem Ss {C:Ce} {b:Nat} {n:Int} {size:Int} {env:En} (h:Bx C b n) (hn:n≤800000) (h0:0≤size) (h1:size≤100):
  ∃(cs:List Nat) (C':Ce),gm .one gj iD [some (.im (.str abc)),some (.ce b)] (nQ 0 size.toNat) C=some ((cs.map fun c=>.str ⟨#[c]⟩),C')∧cs.length=size.toNat∧(∀c∈cs,97≤c∧c≤122)∧Bx C' b (n + size)∧C'.length=C.length:=by
 obtain ⟨ys,C',e,⟨hB,hC⟩,hl,hr⟩:=zE (T:=.one) (fe:=iD) (fs:=[some (.im (.str abc)),some (.ce b)]) (fun i C1=>Bx C1 b (n + i)∧C1.length=C.length) (fun _ y=>∃c:Nat,y=.str ⟨#[c]⟩∧97≤c∧c≤122) (its:=nQ 0 size.toNat) (C:=C) (k:=0) ⟨h.mono (by omega),rfl⟩ (fun i d C1 hd ⟨hB,hC⟩=>by
  obtain ⟨rfl,hi⟩:=nW hd
  rw [Nat.zero_add] at hB ⊢
  obtain ⟨k1,C2,e1,a1,b1,mG,l1⟩:=cO (m:=26) hB (by omega) (by omega) (by omega)
  refine ⟨_,.im (.str ⟨#[97 + k1.toNat]⟩),[some (.im (.int (0 + i))),some (.im (.str abc)),some (.ce b)],C2,.str ⟨#[97 + k1.toNat]⟩,rfl,?_,rfl,⟨_,rfl,by omega,by omega⟩,mG.mono (by omega),by omega⟩
  simp [qp,aC,au,dat,ao,aU,aa,aG,aH,still,az,e1,aR,letters k1 a1 b1,rst,jW])
 rw [mX] at hB hl
 obtain ⟨cs,rfl,hcs⟩:∃cs:List Nat,ys=cs.map (fun c=>.str ⟨#[c]⟩)∧∀c∈cs,97≤c∧c≤122:=by
  clear e hl hB
  induction ys with
  | nil=>exact ⟨[],rfl,fun _ m=>(nomatch m)⟩
  | cons y ys ih=>
   obtain ⟨c,rfl,c1,c2⟩:=hr 0 y rfl
   obtain ⟨cs,rfl,h2⟩:=ih fun i z hz=>by
    have:=hr (i + 1) z (by simpa using hz)
    exact this
   exact ⟨c::cs,rfl,fun x hx=>by
    rcases List.mem_cons.mp hx with rfl | hx
    ·exact ⟨c1,c2⟩
    ·exact h2 x hx⟩
 exact ⟨cs,C',e,by simpa using hl,hcs,hB.mono (by omega),hC⟩
end pN
set_option maxHeartbeats 4000000
namespace pN
open PySem L2
theorem PL:abc.cps.toList=(List.range 26).map (97 + ·):=by decide +kernel
theorem zQ:chars abc=(List.range 26).map fun i=>.str ⟨#[97 + i]⟩:=by
 unfold chars
 rw [PL,List.map_map]
 rfl
theorem jY:∀zs:List Str,dX (zs.map PyData.str)=true
 | []=>rfl
 | z::zs=>by
  show (true&&dX (zs.map PyData.str))=true
  rw [jY zs]
  rfl
theorem Su {C:Ce} {z:Str} (hz:z.length≤8):gm .one gj iC [some (.im (.str z))] (chars abc) C=some (((List.range 26).map (mD z)).map .str,C):=by
 rw [nY (fun _=>true) (fun d=>match d with | .str c=>.str (Txt.slice z none (some 7)++c) | _=>.none) fun d hd=>?_]
 ·rw [zQ,List.filter_eq_self.mpr fun _ _=>rfl,List.map_map,List.map_map]
  rfl
 ·rw [zQ] at hd
  obtain ⟨i,hi,rfl⟩:=List.mem_map.mp hd
  refine ⟨_,rfl,rfl,fun _=>⟨.im (.str (Txt.slice z none (some 7)++⟨#[97 + i]⟩)),[some (.im (.str ⟨#[97 + i]⟩)),some (.im (.str z))],?_,rfl⟩⟩
  have h1:z.length≤1000000:=by omega
  have h2:(Txt.slice z none (some 7)).length + Str.length ⟨#[97 + i]⟩≤1000000:=by
   have:=xK z
   show _ + 1≤_
   omega
  simp [qp,aC,au,dat,ao,lN,lM,lG,az,Wk,aQ,jA,h1,h2,rst,jW]
theorem Sv {C:Ce} {cs zs:List Str}:gm .one lQ lR [some (.im (.list (zs.map .str)))] (cs.map .str) C=some ((cs.filter fun o=>decide (o∉zs)).map .str,C):=by
 rw [nY (fun d=>match d with | .str o=>decide (o∉zs) | _=>false) id fun d hd=>?_]
 ·rw [List.map_id,List.filter_map]
  rfl
 ·obtain ⟨o,ho,rfl⟩:=List.mem_map.mp hd
  refine ⟨_,rfl,?_,fun _=>⟨.im (.str o),[some (.im (.str o)),some (.im (.list (zs.map .str)))],?_,rfl⟩⟩
  ·have hi:inB (.str o) (.list (zs.map .str))=some (decide (o∈zs)):=by
    show (if iw (.str o)&&(zs.map PyData.str).all iw then some (inD (.str o) (zs.map .str)) else none)=_
    rw [Lb,Eo]
    rfl
   simp [qp,b7,aC,au,dat,vA,hi,rst,jW]
  ·simp [qp,aH]
theorem Wu {C:Ce} {zs:List Str} {z:Str} {v0 v1 v4 v5:Option Vl} (hz:nameB z=true) (hl:zs.length < 26):
  ∃z',nameB z'=true∧z'∉zs∧fY 3 (aC aR (ao (mq (iB (ao (aC aQ (ao (bH (aa (aH 6) aG))) (ao (mq (iB (au 2)) .one gj iC [6]))))) .one lQ lR [3])) (ao (az (.int 0)))) [v0,v1,some (.im (.str abc)),some (.ow (.list (zs.map .str))),v4,v5,some (.im (.str z))] C
   =some (.nx,[v0,v1,some (.im (.str abc)),some (.ow (.list ((zs++[z']).map .str))),v4,v5,some (.im (.str z))],C):=by
 obtain ⟨k,hk,hn⟩:=Ph z hl
 have n8:=(xM hz).2.1
 generalize hcs:z::(List.range 26).map (mD z)=cs
 have hlc:cs.length=27:=by rw [←hcs]; simp
 have mem:mD z k∈cs.filter fun o=>decide (o∉zs):=List.mem_filter.mpr ⟨by rw [←hcs]; exact List.mem_cons_of_mem _ (List.mem_map.mpr ⟨k,List.mem_range.mpr hk,rfl⟩),decide_eq_true hn⟩
 cases hf:cs.filter fun o=>decide (o∉zs) with
 | nil=>rw [hf] at mem; cases mem
 | cons z' r=>
  have mz:z'∈cs.filter fun o=>decide (o∉zs):=by rw [hf]; exact List.mem_cons_self
  obtain ⟨m1,m2⟩:=List.mem_filter.mp mz
  refine ⟨z',?_,of_decide_eq_true m2,?_⟩
  ·rw [←hcs] at m1
   rcases List.mem_cons.mp m1 with rfl | m1
   ·exact hz
   ·obtain ⟨i,hi,rfl⟩:=List.mem_map.mp m1
    exact zG hz (List.mem_range.mp hi)
  ·have e1:=Su (C:=C) n8
   have e2:=Sv (C:=C) (cs:=cs) (zs:=zs)
   rw [hf] at e2
   have e3:PyData.str z::((List.range 26).map (mD z)).map .str=cs.map .str:=by rw [←hcs]; rfl
   have lf:(z'::r).length≤27:=by rw [←hf,←hlc]; exact List.length_filter_le _ _
   have l1:(((List.range 26).map (mD z)).map PyData.str).length=26:=by simp
   have n1:=jY ((List.range 26).map (mD z))
   have n2:=jY (z'::r)
   have lz:zs.length < 1000000:=by omega
   let en:En:=[v0,v1,some (.im (.str abc)),some (.ow (.list (zs.map .str))),v4,v5,some (.im (.str z))]
   have i1:mq (iB (au 2)) .one gj iC [6] en C=some (.ow (.list (((List.range 26).map (mD z)).map .str)),en,C):=
    pL (sI (f:=au 2) (d:=.str abc) rfl rfl) e1 (by rw [l1]; omega) n1
   have i2:aC aQ (ao (bH (aa (aH 6) aG))) (ao (mq (iB (au 2)) .one gj iC [6])) en C=some (.ow (.list (cs.map .str)),en,C):=by
    rw [←e3]
    refine aO (x:=.list [.str z]) (aF (r:=.ow (.list [.str z])) rfl rfl) (aF i1 rfl) ?_
    simp only [aQ]
    exact if_pos (by rw [l1]; show 1 + 26≤1000000; omega)
   have i3:mq (iB (ao (aC aQ (ao (bH (aa (aH 6) aG))) (ao (mq (iB (au 2)) .one gj iC [6]))))) .one lQ lR [3] en C=some (.ow (.list ((z'::r).map .str)),en,C):=
    pL (sI (aF i2 rfl) rfl) e2 (by rw [List.length_map]; omega) n2
   have a:=uw (i:=3) (env:=en) (C:=C) (d:=.str z') (ds:=zs.map .str) rfl (aO (fb:=ao (az (.int 0))) (aF i3 rfl) (aF rfl rfl) Hh) rfl rfl (by rw [List.length_map]; exact lz)
   rw [List.map_append]
   exact a
end pN
set_option maxHeartbeats 4000000
namespace pN
open PySem L2
@[reducible] def nmA:FS:=bQ 6 (d7 (ao (az (.str (Str.ofString "")))) (ao (mq (zx (au 5)) .one gj iD [2,0])))
@[reducible] def nmB:FS:=dI (cN (b7 (aC nH (ao (aU aM (aa (aH 0) (aa (az (.int 3)) aG)))) (ao (az (.int 0))))) (b7 (aC qm (au 3) (ao (bH aG))))) (bQ 6 (aC aQ (ao (lN (ao (aC aR (au 3) (ao (aU aM (aa (aH 0) (aa (bC iU (aP (au 3) bF)) aG)))))) lM (lG (ao (az (.int 7)))))) (ao (aC aR (au 2) (ao (aU aM (aa (aH 0) (aa (az (.int 26)) aG)))))))) cD
theorem yt:∀cs:List Nat,dX (cs.map fun c=>PyData.str ⟨#[c]⟩)=true
 | []=>rfl
 | c::cs=>by
  show (true&&dX (cs.map fun c=>PyData.str ⟨#[c]⟩))=true
  rw [yt cs]
  rfl
theorem tD:∀cs:List Nat,strsOf (cs.map fun c=>PyData.str ⟨#[c]⟩)=some (cs.map fun c=>(⟨#[c]⟩:Str))
 | []=>rfl
 | c::cs=>by
  show (match strsOf (cs.map fun c=>PyData.str ⟨#[c]⟩) with | some t=>some (_::t) | none=>none)=_
  rw [tD cs]
  rfl
theorem Ld:(Str.ofString "").length=0:=by decide +kernel
theorem Wv {C:Ce} {b:Nat} {n size:Int} {v1 v3 v4 v6:Option Vl} (h:Bx C b n) (hn:n≤800000) (h0:1≤size) (h1:size≤8):
  ∃z C',nmA [some (.ce b),v1,some (.im (.str abc)),v3,v4,some (.im (.int size)),v6] C=some (.nx,[some (.ce b),v1,some (.im (.str abc)),v3,v4,some (.im (.int size)),some (.im (.str z))],C')∧nameB z=true∧Bx C' b (n + 8)∧C'.length=C.length:=by
 obtain ⟨cs,C',e,hl,hc,hB,hC⟩:=Ss (env:=[]) h hn (by omega:0≤size) (by omega)
 refine ⟨Txt.join (Str.ofString "") (cs.map fun c=>⟨#[c]⟩),C',?_,K5 (by omega) (by omega) hc,hB.mono (by omega),hC⟩
 let en:En:=[some (.ce b),v1,some (.im (.str abc)),v3,v4,some (.im (.int size)),v6]
 have i1:mq (zx (au 5)) .one gj iD [2,0] en C=some (.ow (.list (cs.map fun c=>.str ⟨#[c]⟩)),en,C'):=
  pL (Bs (m:=size) (e1:=en) rfl (by omega) (by omega)) e (by rw [List.length_map]; omega) (yt cs)
 have i2:d7 (ao (az (.str (Str.ofString "")))) (ao (mq (zx (au 5)) .one gj iD [2,0])) en C=some (.im (.str (Txt.join (Str.ofString "") (cs.map fun c=>⟨#[c]⟩))),en,C'):=by
  refine aO (x:=.str (Str.ofString "")) (aF rfl rfl) (aF i1 rfl) ?_
  simp only [G8,tD]
  refine if_pos ?_
  rw [List.map_map,Js,Ld,Nat.mul_zero]
  unfold jA
  omega
 exact fZ i2
theorem ne_nil (zs:List Str) (hz:∀z∈zs,nameB z=true):qm (.list (zs.map .str)) (.list [])=some (.im (.bool (!zs.isEmpty))):=by
 have s1:PySem.SeqAt.shaped (.list (zs.map PyData.str))=true:=Er fun z m=>xN (hz z m)
 have n1:KD (.list (zs.map PyData.str))=true:=(xO fun z m=>xN (hz z m)).2.2
 have e:NK (.list (zs.map .str)) (.list [])=some zs.isEmpty:=by
  show (if KD (.list (zs.map PyData.str))&&KD (.list [])&&(PySem.SeqAt.shaped (.list (zs.map PyData.str))&&PySem.SeqAt.shaped (.list [])) then some (PyData.eqv (.list (zs.map .str)) (.list [])) else none)=_
  rw [n1,s1]
  cases zs <;> rfl
 simp only [qm,e,Option.map_some]
theorem oM {zs:List Str} {k:Int} (h0:0≤k) (h1:k < zs.length):∃z,z∈zs∧zs[k.toNat]?=some z∧aR (.list (zs.map .str)) (.int k)=some (.im (.str z)):=by
 obtain ⟨x,e1,e2⟩:=Pb (xs:=zs.map PyData.str) h0 (by rw [List.length_map]; exact h1)
 rw [List.getElem?_map] at e2
 cases hz:zs[k.toNat]? with
 | none=>rw [hz] at e2; cases e2
 | some z=>
  rw [hz] at e2
  cases e2
  refine ⟨z,List.mem_of_getElem? hz,rfl,?_⟩
  simp only [aR,nJ,e1,Option.map_some]
theorem Ww {C:Ce} {b:Nat} {n:Int} {v1 v4 v5:Option Vl} {zs:List Str} {z:Str} (h:Bx C b n) (hn:n≤800000) (hz:nameB z=true) (hzs:∀z∈zs,nameB z=true) (hl:zs.length < 26):
  ∃z' C',nmB [some (.ce b),v1,some (.im (.str abc)),some (.ow (.list (zs.map .str))),v4,v5,some (.im (.str z))] C=some (.nx,[some (.ce b),v1,some (.im (.str abc)),some (.ow (.list (zs.map .str))),v4,v5,some (.im (.str z'))],C')∧nameB z'=true∧Bx C' b (n + 3)∧C'.length=C.length:=by
 obtain ⟨k1,C1,e1,a1,b1,mG,l1⟩:=cO (m:=3) h (by omega) (by omega) (by omega)
 have ne:=ne_nil zs hzs
 by_cases hk:k1=0
 ·subst hk
  cases zs with
  | nil=>exact ⟨z,C1,by simp [fN,bw,dI,b7,gM,aC,gn,ir,cY,ao,dat,az,au,aH,bQ,dm,cX,still,aU,aa,aG,aP,bF,bT,bH,fQ,dG,bC,rst,jW,dX,dZ,cD,fX,setM,iR,qw,bO,dH,gh,aR,nJ,iG,cN,je,dY,dj,jT,eF,fU,fB,iW,eE,dz,isNone,cI,lN,lM,lG,gO,iH,d7,dB,fY,eG,iI,intsOf,e1,nH,NK,jA,ne] <;> rfl,hz,mG.mono (by omega),l1⟩
  | cons z0 zr=>
   obtain ⟨k2,C2,e2,a2,b2,hB2,l2⟩:=cO (m:=(z0::zr).length) mG (by omega) (by simp) (by simp at hl ⊢; omega)
   obtain ⟨k3,C3,e3,a3,b3,hB3,l3⟩:=cO (m:=26) hB2 (by omega) (by omega) (by omega)
   obtain ⟨z1,m1,_,i1⟩:=oM a2 b2
   have n1:=hzs z1 m1
   have n8:=(xM n1).2.1
   have c7:=xK z1
   refine ⟨mD z1 k3.toNat,C3,?_,zG n1 (by omega),hB3.mono (by omega),by omega⟩
   have h1:z1.length≤1000000:=by omega
   have h2:(Txt.slice z1 none (some 7)).length + Str.length ⟨#[97 + k3.toNat]⟩≤1000000:=by
    show _ + 1≤_
    omega
   let en:En:=[some (.ce b),v1,some (.im (.str abc)),some (.ow (.list ((z0::zr).map .str))),v4,v5,some (.im (.str z))]
   have t1:aU aM (aa (aH 0) (aa (az (.int 3)) aG)) en C=some (.im (.int 0),en,C1):=cR (xs:=[.ce b,.im (.int 3)]) (e1:=en) rfl e1
   have t2:aU aM (aa (aH 0) (aa (bC iU (aP (au 3) bF)) aG)) en C1=some (.im (.int k2),en,C2):=by
    refine cR (xs:=[.ce b,.im (.int (z0::zr).length)]) (e1:=en) ?_ e2
    show some ([Vl.ce b,Vl.im (.int (((z0::zr).map PyData.str).length:Nat))],_,_)=_
    rw [List.length_map]
    rfl
   have t3:aU aM (aa (aH 0) (aa (az (.int 26)) aG)) en C2=some (.im (.int k3),en,C3):=cR (xs:=[.ce b,.im (.int 26)]) (e1:=en) rfl e3
   have t4:aC aR (au 3) (ao (aU aM (aa (aH 0) (aa (bC iU (aP (au 3) bF)) aG)))) en C1=some (.im (.str z1),en,C2):=aO (x:=.list ((z0::zr).map .str)) (e1:=en) rfl (aF t2 rfl) i1
   have t5:lN (ao (aC aR (au 3) (ao (aU aM (aa (aH 0) (aa (bC iU (aP (au 3) bF)) aG)))))) lM (lG (ao (az (.int 7)))) en C1=some (.im (.str (Txt.slice z1 none (some 7))),en,C2):=
    Jr (aF t4 rfl) (l:=none) (h:=some 7) rfl rfl (by simp only [Wk]; exact if_pos h1)
   have t6:aC aR (au 2) (ao (aU aM (aa (aH 0) (aa (az (.int 26)) aG)))) en C2=some (.im (.str ⟨#[97 + k3.toNat]⟩),en,C3):=aO (x:=.str abc) (e1:=en) rfl (aF t3 rfl) (by simp only [aR,letters k3 a3 b3,Option.map_some])
   have t7:=fZ (i:=6) (aO (op:=aQ) (r:=.im (.str (mD z1 k3.toNat))) (aF t5 rfl) (aF t6 rfl) (by simp only [aQ]; exact if_pos h2))
   have t8:b7 (aC nH (ao (aU aM (aa (aH 0) (aa (az (.int 3)) aG)))) (ao (az (.int 0)))) en C=some (true,C1):=by
    unfold b7
    rw [aO (x:=.int 0) (y:=.int 0) (r:=.im (.bool true)) (aF t1 rfl) (aF rfl rfl) rfl]
   have t9:b7 (aC qm (au 3) (ao (bH aG))) en C1=some (true,C1):=by
    unfold b7
    rw [aO (x:=.list ((z0::zr).map .str)) (y:=.list []) (r:=.im (.bool true)) (e1:=en) (e2:=en) rfl (aF (r:=.ow (.list [])) rfl rfl) ne]
   show dI _ _ _ en C=_
   unfold dI cN
   simp only [t8,t9]
   exact t7
 ·exact ⟨z,C1,by simp [fN,bw,dI,b7,gM,aC,gn,ir,cY,ao,dat,az,au,aH,bQ,dm,cX,still,aU,aa,aG,aP,bF,bT,bH,fQ,dG,bC,rst,jW,dX,dZ,cD,fX,setM,iR,qw,bO,dH,gh,aR,nJ,iG,cN,je,dY,dj,jT,eF,fU,fB,iW,eE,dz,isNone,cI,lN,lM,lG,gO,iH,d7,dB,fY,eG,iI,intsOf,e1,nH,NK,jA,show (k1==0)=false from beq_eq_false_iff_ne.mpr hk],hz,mG.mono (by omega),l1⟩
theorem PN {C:Ce} {b:Nat} {n m:Int} (h:Bx C b n) (hn:n≤700000) (h0:0≤m) (h1:m≤20):
  ∃(zs:List Str) (C':Ce),lA [.ce b,.im (.int m)] C=some (.ow (.list (zs.map .str)),C')∧Names zs∧zs.length=m.toNat∧Bx C' b (n + 12 * m)∧C'.length=C.length:=by
 obtain ⟨env',C',e,zs,v4,v5,v6,he,hl,hN,hB,hC⟩:=cZ (g:=gh 4) (body:=uP) (its:=nQ 0 m.toNat) (env:=[some (.ce b),some (.im (.int m)),some (.im (.str abc)),some (.ow (.list [])),none,none,none]) (C:=C)
  (fun i env C1=>∃(zs:List Str) (v4 v5 v6:Option Vl),env=[some (.ce b),some (.im (.int m)),some (.im (.str abc)),some (.ow (.list (zs.map .str))),v4,v5,v6]∧zs.length=i∧Names zs∧Bx C1 b (n + 12 * i)∧C1.length=C.length)
  ⟨[],none,none,none,rfl,rfl,⟨List.nodup_nil,fun _ m=>(nomatch m)⟩,h.mono (by omega),rfl⟩ (fun i d env C1 hd hI=>by
   obtain ⟨zs,v4,v5,v6,rfl,hl,hN,hB,hC⟩:=hI
   obtain ⟨rfl,hi⟩:=nW hd
   obtain ⟨k1,C2,e1,a1,b1,mG,l1⟩:=cO (m:=3) hB (by omega) (by omega) (by omega)
   obtain ⟨size,s0,s1,es⟩:∃size:Int,1≤size∧size≤8∧bQ 5 (aC aR (ao (bH (aa (az (.int 1)) (aa (az (.int 8)) (aa (az (.int 2)) aG))))) (ao (aU aM (aa (aH 0) (aa (az (.int 3)) aG))))) [some (.ce b),some (.im (.int m)),some (.im (.str abc)),some (.ow (.list (zs.map .str))),some (.im (.int (0 + i))),v5,v6] C1
     =some (.nx,[some (.ce b),some (.im (.int m)),some (.im (.str abc)),some (.ow (.list (zs.map .str))),some (.im (.int (0 + i))),some (.im (.int size)),v6],C2):=by
    have hk:k1=0∨k1=1∨k1=2:=by omega
    rcases hk with rfl | rfl | rfl
    ·exact ⟨1,by omega,by omega,by simp [fN,bw,dI,b7,gM,aC,gn,ir,cY,ao,dat,az,au,aH,bQ,dm,cX,still,aU,aa,aG,aP,bF,bT,bH,fQ,dG,bC,rst,jW,dX,dZ,cD,fX,setM,iR,qw,bO,dH,gh,aR,nJ,iG,cN,je,dY,dj,jT,eF,fU,fB,iW,eE,dz,isNone,cI,lN,lM,lG,gO,iH,d7,dB,fY,eG,iI,intsOf,e1,jA,j0,oV]⟩
    ·exact ⟨8,by omega,by omega,by simp [fN,bw,dI,b7,gM,aC,gn,ir,cY,ao,dat,az,au,aH,bQ,dm,cX,still,aU,aa,aG,aP,bF,bT,bH,fQ,dG,bC,rst,jW,dX,dZ,cD,fX,setM,iR,qw,bO,dH,gh,aR,nJ,iG,cN,je,dY,dj,jT,eF,fU,fB,iW,eE,dz,isNone,cI,lN,lM,lG,gO,iH,d7,dB,fY,eG,iI,intsOf,e1,jA,j0,oV]⟩
    ·exact ⟨2,by omega,by omega,by simp [fN,bw,dI,b7,gM,aC,gn,ir,cY,ao,dat,az,au,aH,bQ,dm,cX,still,aU,aa,aG,aP,bF,bT,bH,fQ,dG,bC,rst,jW,dX,dZ,cD,fX,setM,iR,qw,bO,dH,gh,aR,nJ,iG,cN,je,dY,dj,jT,eF,fU,fB,iW,eE,dz,isNone,cI,lN,lM,lG,gO,iH,d7,dB,fY,eG,iI,intsOf,e1,jA,j0,oV]⟩
   obtain ⟨z,C3,eA,nz,hB3,l3⟩:=Wv (v1:=some (.im (.int m))) (v3:=some (.ow (.list (zs.map .str)))) (v4:=some (.im (.int (0 + i)))) (v6:=v6) mG (by omega) s0 s1
   obtain ⟨z',C4,eB,nz',Sw,l4⟩:=Ww (v1:=some (.im (.int m))) (v4:=some (.im (.int (0 + i)))) (v5:=some (.im (.int size))) hB3 (by omega) nz hN.2 (by omega:zs.length < 26)
   obtain ⟨z2,nz2,ni,eC⟩:=Wu (C:=C4) (v0:=some (.ce b)) (v1:=some (.im (.int m))) (v4:=some (.im (.int (0 + i)))) (v5:=some (.im (.int size))) nz' (by omega:zs.length < 26)
   refine ⟨_,.nx,_,C4,rfl,?_,.inl rfl,zs++[z2],some (.im (.int (0 + i))),some (.im (.int size)),some (.im (.str z')),rfl,by simp [hl],⟨?_,fun x hx=>?_⟩,Sw.mono (by omega),by omega⟩
   ·show bw _ (bw nmA (bw nmB _)) _ _=_
    exact (seq_eq es).trans ((seq_eq eA).trans ((seq_eq eB).trans eC))
   ·rw [List.nodup_append]
    exact ⟨hN.1,by simp,fun x hx y hy e=>by rw [List.mem_singleton.mp hy] at e; subst e; exact ni hx⟩
   ·rcases List.mem_append.mp hx with hx | hx
    ·exact hN.2 x hx
    ·rw [List.mem_singleton.mp hx]; exact nz2)
 rw [mX] at hl hB
 subst he
 refine ⟨zs,C',?_,hN,hl,hB.mono (by omega),hC⟩
 have hm1:-4611686018427387904≤m:=by omega
 have hm2:m < 4611686018427387904:=by omega
 simp [lA,xX,fN,bw,dI,b7,gM,aC,gn,ir,cY,ao,dat,az,au,aH,bQ,dm,cX,still,aU,aa,aG,aP,bF,bT,bH,fQ,dG,bC,rst,jW,dX,dZ,cD,fX,setM,iR,qw,bO,dH,gh,aR,nJ,iG,cN,je,dY,dj,jT,eF,fU,fB,iW,eE,dz,isNone,cI,lN,lM,lG,gO,iH,d7,dB,fY,eG,iI,intsOf,zx,hm1,hm2,jA,e,cQ hC]
end pN
set_option maxHeartbeats 4000000
namespace pN
open PySem L2
theorem Sx {d:PyData} {r:List PyData}:aR (.tuple (d::r)) (.int 0)=some (.im d):=by
 have:j0 (d::r) (0:Int)=some d:=Ae (j:=0) rfl
 simp only [aR,nJ,this,Option.map_some]
theorem zR {fe:FE} {C:Ce} {ps:List (Str×Str)} (he:fe=aC aR (au 0) (ao (az (.int 0)))):gm .one gj fe [] (ps.map bD) C=some ((ps.map (·.1)).map .str,C):=by
 subst he
 rw [nY (fun _=>true) (fun d=>match d with | .tuple (x::_)=>x | _=>.none) fun d hd=>?_]
 ·rw [List.filter_eq_self.mpr fun _ _=>rfl,List.map_map,List.map_map]
  rfl
 ·obtain ⟨p,_,rfl⟩:=List.mem_map.mp hd
  exact ⟨_,rfl,rfl,fun _=>⟨.im (.str p.1),_,aO (x:=bD p) (e1:=[some (.im (bD p))]) (e2:=[some (.im (bD p))]) rfl (aF rfl rfl) Sx,rfl⟩⟩
theorem PX {C:Ce} {b:Nat} {n:Int} {zs:List Str} (h:Bx C b n) (hn:n≤700000) (hz:8≤zs.length):
  ∃(ps:List (Str×Str)) (C':Ce),lB [.ce b,.im (.list (zs.map .str))] C=some (.ow (.list (ps.map bD)),C')∧dg zs ps∧1≤ps.length∧ps.length≤8∧Bx C' b (n + 10)∧C'.length=C.length:=by
 obtain ⟨m,C1,e1,a1,b1,mG,l1⟩:=tB (m:=8) h (by omega) (by omega) (by omega)
 have hmx:∃M:Int,(if m > 1 then m else 1)=M∧1≤M∧M≤8:=⟨_,rfl,by split <;> omega,by split <;> omega⟩
 obtain ⟨M,hM,M1,M8⟩:=hmx
 obtain ⟨env',C',e,ps,v3,he,hl,hP,hB,hC⟩:=cZ (g:=gh 3) (body:=uQ) (its:=nQ 0 M.toNat) (env:=[some (.ce b),some (.im (.list (zs.map .str))),some (.ow (.list [])),none]) (C:=C1)
  (fun i env C2=>∃(ps:List (Str×Str)) (v3:Option Vl),env=[some (.ce b),some (.im (.list (zs.map .str))),some (.ow (.list (ps.map bD))),v3]∧ps.length=i∧dg zs ps∧Bx C2 b (n + 2 + i)∧C2.length=C.length)
  ⟨[],none,rfl,rfl,(fun i x e=>by simp at e),mG.mono (by omega),l1⟩ (fun i d env C2 hd hI=>by
   obtain ⟨ps,v3,rfl,hl,hP,hB,hC⟩:=hI
   obtain ⟨rfl,hi⟩:=nW hd
   obtain ⟨k,C3,e2,a2,b2,hB2,l2⟩:=cO (m:=0 + (i:Int) + 1) hB (by omega) (by omega) (by omega)
   obtain ⟨z,_,hz1,iz⟩:=oM (zs:=zs) (k:=0 + (i:Int)) (by omega) (by omega)
   have hz2:zs[ps.length]?=some z:=by rw [hl]; rw [show ((0:Int) + (i:Int)).toNat=i by omega] at hz1; exact hz1
   obtain ⟨y,my,hy1,iy⟩:=oM (zs:=Str.ofString ""::ps.map (·.1)) (k:=k) a2 (by rw [List.length_cons,List.length_map,hl]; omega)
   have hy2:y=Str.ofString ""∨∃j,j < ps.length∧zs[j]?=some y:=by
    rcases List.mem_cons.mp my with rfl | my
    ·exact .inl rfl
    ·obtain ⟨x,hx,rfl⟩:=List.mem_map.mp my
     obtain ⟨j,hj,rfl⟩:=List.getElem_of_mem hx
     exact .inr ⟨j,hj,(hP j ps[j] (List.getElem?_eq_getElem hj)).1⟩
   let en:En:=[some (.ce b),some (.im (.list (zs.map .str))),some (.ow (.list (ps.map bD))),some (.im (.int (0 + i)))]
   have t1:mq (iB (au 2)) .one gj lU [] en C2=some (.ow (.list ((ps.map (·.1)).map .str)),en,C2):=
    pL (sI (f:=au 2) (d:=.list (ps.map bD)) (e1:=en) rfl rfl) (zR rfl) (by rw [List.length_map,List.length_map]; omega) (jY _)
   have t2:aC aQ (ao (bH (aa (az (.str (Str.ofString ""))) aG))) (ao (mq (iB (au 2)) .one gj lU [])) en C2=some (.ow (.list ((Str.ofString ""::ps.map (·.1)).map .str)),en,C2):=by
    refine aO (x:=.list [.str (Str.ofString "")]) (e1:=en) (aF (r:=.ow (.list [.str (Str.ofString "")])) rfl rfl) (aF t1 rfl) ?_
    simp only [aQ]
    exact if_pos (by rw [List.length_map,List.length_map]; show 1 + ps.length≤1000000; omega)
   have t3:aU aM (aa (aH 0) (aa (aC aQ (au 3) (ao (az (.int 1)))) aG)) en C2=some (.im (.int k),en,C3):=cR (xs:=[.ce b,.im (.int (0 + (i:Int) + 1))]) (e1:=en) rfl e2
   have t4:=aO (op:=aR) (aF t2 rfl) (aF t3 rfl) iy
   have t5:aC aR (au 1) (au 3) en C2=some (.im (.str z),en,C2):=aO (x:=.list (zs.map .str)) (y:=.int (0 + (i:Int))) (e1:=en) (e2:=en) rfl rfl iz
   have t6:fQ (aa (aC aR (au 1) (au 3)) (aa (aC aR (ao (aC aQ (ao (bH (aa (az (.str (Str.ofString ""))) aG))) (ao (mq (iB (au 2)) .one gj lU [])))) (ao (aU aM (aa (aH 0) (aa (aC aQ (au 3) (ao (az (.int 1)))) aG))))) aG)) en C2=some (.im (bD (z,y)),en,C3):=by
    simp only [fQ,aa,t5,still,t4,aG,dG]
    exact if_pos (by show 2≤1000000; omega)
   have t7:=uw (i:=2) (ds:=ps.map bD) rfl t6 rfl rfl (by rw [List.length_map]; omega)
   refine ⟨en,.nx,_,C3,rfl,t7,.inl rfl,ps++[(z,y)],some (.im (.int (0 + i))),?_,by simp [hl],hP.snoc hz2 hy2,hB2.mono (by omega),by omega⟩
   rw [List.map_append]
   rfl)
 rw [mX] at hl hB
 subst he
 refine ⟨ps,C',?_,hP,by omega,by omega,hB.mono (by omega),hC⟩
 have hm1:-4611686018427387904≤M:=by omega
 have hm2:M < 4611686018427387904:=by omega
 have hM':(if 1 < m then m else 1)=M:=hM
 simp [lB,xY,fN,bw,dI,b7,gM,aC,gn,ir,cY,ao,dat,az,au,aH,bQ,dm,cX,still,aU,aa,aG,aP,bF,bT,bH,fQ,dG,bC,rst,jW,dX,dZ,cD,fX,setM,iR,qw,bO,dH,gh,aR,nJ,iG,cN,je,dY,dj,jT,eF,fU,fB,iW,eE,dz,isNone,cI,lN,lM,lG,gO,iH,d7,dB,fY,eG,iI,intsOf,zx,e1,Bl,hM',hm1,hm2,jA,e,cQ hC]
end pN
set_option maxHeartbeats 4000000
namespace pN
open PySem L2
theorem vL {en:En} {b s:Nat} {C:Ce} {n m:Int} {x:Vl} {ys:List Str} {fm:FE} (h:Bx C b n) (hn:n≤800000) (h0:en[0]?=some (some (.ce b))) (hs:en[s]?=some (some x)) (hx:dat x=some (.list (ys.map .str))) (hm:fm en C=some (.im (.int m),en,C)) (m0:0 < m) (m1:m≤ys.length) (m2:m < 1000000):
  ∃(z:Str) (k:Nat) (C':Ce),aC aR (au s) (ao (aU aM (aa (aH 0) (aa fm aG)))) en C=some (.im (.str z),en,C')∧z∈ys∧ys[k]?=some z∧Bx C' b (n + 1)∧C'.length=C.length:=by
 obtain ⟨k,C1,e1,a1,b1,mG,l1⟩:=cO (m:=m) h (by omega) m0 (by omega)
 obtain ⟨z,mz,hk,iz⟩:=oM (zs:=ys) a1 (by omega)
 exact ⟨z,k.toNat,C1,aO (bv hs hx) (aF (cR (uN (xP h0) hm) e1) rfl) iz,mz,hk,mG,l1⟩
theorem vM {en:En} {b:Nat} {C:Ce} {n m:Int} {fm:FE} (h:Bx C b n) (hn:n≤800000) (h0:en[0]?=some (some (.ce b))) (hm:fm en C=some (.im (.int m),en,C)) (m0:0 < m) (m2:m < 1000000):
  ∃k C',aU aM (aa (aH 0) (aa fm aG)) en C=some (.im (.int k),en,C')∧0≤k∧k < m∧Bx C' b (n + 1)∧C'.length=C.length:=by
 obtain ⟨k,C1,e1,a1,b1,mG,l1⟩:=cO (m:=m) h (by omega) m0 (by omega)
 exact ⟨k,C1,cR (uN (xP h0) hm) e1,a1,b1,mG,l1⟩
theorem BW {en:En} {s:Nat} {C:Ce} {x:Vl} {ys:List Str} (hs:en[s]?=some (some x)) (hx:dat x=some (.list (ys.map .str))):bC iU (aP (au s) bF) en C=some (.im (.int ys.length),en,C):=by
 have:=fK (op:=iU) (bv (C:=C) hs hx) (r:=.im (.int ys.length)) (by
  show some (Vl.im (.int ((ys.map PyData.str).length:Nat)))=_
  rw [List.length_map])
 exact this
theorem JC {en:En} {b:Nat} {C:Ce} {n:Int} (h:Bx C b n) (hn:n≤800000) (h0:en[0]?=some (some (.ce b))):
  ∃k C',aC aQ (ao (az (.int 1))) (ao (aU aM (aa (aH 0) (aa (aC aR (ao (bH (aa (az (.int 9)) (aa (az (.int 3)) aG)))) (ao (aU aM (aa (aH 0) (aa (az (.int 2)) aG))))) aG)))) en C=some (.im (.int k),en,C')∧1≤k∧k≤9∧Bx C' b (n + 2)∧C'.length=C.length:=by
 obtain ⟨k1,C1,e1,a1,b1,mG,l1⟩:=vM (m:=2) h (by omega) h0 (fm:=az (.int 2)) rfl (by omega) (by omega)
 obtain ⟨m,m0,m9,em⟩:∃m:Int,3≤m∧m≤9∧aC aR (ao (bH (aa (az (.int 9)) (aa (az (.int 3)) aG)))) (ao (aU aM (aa (aH 0) (aa (az (.int 2)) aG)))) en C=some (.im (.int m),en,C1):=by
  have hk:k1=0∨k1=1:=by omega
  rcases hk with rfl | rfl
  ·exact ⟨9,by omega,by omega,aO (x:=.list [.int 9,.int 3]) (e1:=en) (aF (r:=.ow (.list [.int 9,.int 3])) rfl rfl) (aF e1 rfl) (by simp [aR,nJ,j0,oV])⟩
  ·exact ⟨3,by omega,by omega,aO (x:=.list [.int 9,.int 3]) (e1:=en) (aF (r:=.ow (.list [.int 9,.int 3])) rfl rfl) (aF e1 rfl) (by simp [aR,nJ,j0,oV])⟩
 obtain ⟨k2,C2,e2,a2,b2,hB2,l2⟩:=cO (m:=m) mG (by omega) (by omega) (by omega)
 refine ⟨1 + k2,C2,aO (x:=.int 1) (e1:=en) (aF rfl rfl) (aF (cR (xs:=[.ce b,.im (.int m)]) (e1:=en) (uN (xP h0) em) e2) rfl) rfl,by omega,by omega,hB2.mono (by omega),by omega⟩
theorem BX {en:En} {b:Nat} {C:Ce} {n:Int} (h:Bx C b n) (hn:n≤800000) (h0:en[0]?=some (some (.ce b))):
  ∃k C',aU fG (aa (aH 0) aG) en C=some (.im (.int k),en,C')∧0≤k∧k≤99999∧Bx C' b (n + 4)∧C'.length=C.length:=by
 obtain ⟨k,C1,e1,a1,b1,mG,l1⟩:=Ws h hn
 exact ⟨k,C1,cR (dh (xP h0) rfl) e1,a1,b1,mG,l1⟩
theorem P0 {en:En} {b:Nat} {C:Ce} {n:Int} (h:Bx C b n) (hn:n≤800000) (h0:en[0]?=some (some (.ce b))):
  ∃k C',aU jP (aa (aH 0) aG) en C=some (.im (.int k),en,C')∧0≤k∧k≤1000000000∧Bx C' b (n + 4)∧C'.length=C.length:=by
 obtain ⟨k,C1,e1,a1,b1,mG,l1⟩:=Wt h hn
 exact ⟨k,C1,cR (dh (xP h0) rfl) e1,a1,b1,mG,l1⟩
theorem Fb {en:En} {b:Nat} {C:Ce} {n:Int} (h:Bx C b n) (hn:n≤700000) (h0:en[0]?=some (some (.ce b))):
  ∃lo hi C',bC dN (aP (ao (bH (aa (aU fG (aa (aH 0) aG)) (aa (aU fG (aa (aH 0) aG)) aG)))) bF) en C=some (.ow (.list [.int lo,.int hi]),en,C')∧0≤lo∧lo≤hi∧hi≤99999∧Bx C' b (n + 8)∧C'.length=C.length:=by
 obtain ⟨d1,C1,e1,a1,b1,mG,l1⟩:=BX h (by omega) h0
 obtain ⟨d2,C2,e2,a2,b2,hB2,l2⟩:=BX mG (by omega) h0
 obtain ⟨lo,hi,es,h1,h2,h3⟩:=YC d1 d2
 refine ⟨lo,hi,C2,fK (aF (Bu (ds:=[.int d1,.int d2]) (uN e1 e2) rfl (by show 2≤1000000; omega)) rfl) es,by omega,by omega,by omega,hB2.mono (by omega),by omega⟩
abbrev mH (b:Nat) (zs:List Str) (ps:List (Str×Str)) (own:List Str) (rk:List mY) (lv:List qQ) (ru:List (PyData×PyData)) (v7 v8 v9 v10 v11 fH dO d8 eY lD lE jy:Option Vl):En:=
 [some (.ce b),some (.im (.list (zs.map .str))),some (.ow (.list (ps.map bD))),some (.ow (.list (own.map .str))),some (.ow (.list (rk.map bh))),some (.ow (.list (lv.map jN))),some (.ow (.dict ru)),v7,v8,v9,v10,v11,fH,dO,d8,eY,lD,lE,jy]
theorem Hv {C:Ce} {b:Nat} {n num:Int} {zs own:List Str} {ps rk lv ru v8 v9 v10 v11 fH dO d8 eY lD lE jy} (h:Bx C b n) (hn:n≤700000) (h9:zs.length=9) (ho:0 < own.length) (Qp:own.length≤8) (hnum:0≤num∧num≤2000) (hl:rk.length < 1000):
  ∃r C' w8 w9 w10,jK (mH b zs ps own rk lv ru (some (.im (.int num))) v8 v9 v10 v11 fH dO d8 eY lD lE jy) C=some (.nx,mH b zs ps own (rk++[r]) lv ru (some (.im (.int num))) w8 w9 w10 v11 fH dO d8 eY lD lE jy,C')∧Bt zs own r∧r.1=num∧Bx C' b (n + 20)∧C'.length=C.length:=by
 obtain ⟨lo,hi,C1,e1,a1,a2,a3,mG,l1⟩:=Fb (en:=mH b zs ps own rk lv ru (some (.im (.int num))) v8 v9 v10 v11 fH dO d8 eY lD lE jy) h (by omega) rfl
 obtain ⟨who,k1,C2,e2,m1,_,hB2,l2⟩:=vL (en:=mH b zs ps own rk lv ru (some (.im (.int num))) (some (.ow (.list [.int lo,.int hi]))) v9 v10 v11 fH dO d8 eY lD lE jy) (s:=1) (fm:=az (.int 9)) (m:=9) (ys:=zs) mG (by omega) rfl rfl rfl rfl (by omega) (by omega) (by omega)
 obtain ⟨wh,k2,C3,e3,m2,_,hB3,l3⟩:=vL (en:=mH b zs ps own rk lv ru (some (.im (.int num))) (some (.ow (.list [.int lo,.int hi]))) v9 v10 v11 fH dO d8 eY lD lE jy) (s:=3) (fm:=bC iU (aP (au 3) bF)) (m:=own.length) (ys:=own) hB2 (by omega) rfl rfl rfl (BW rfl rfl) (by omega) (by omega) (by omega)
 let gF:=mH b zs ps own rk lv ru (some (.im (.int num))) (some (.ow (.list [.int lo,.int hi]))) (some (.im (.str who))) (some (.im (.str wh))) v11 fH dO d8 eY lD lE jy
 obtain ⟨rank,C4,e4,r1,r9,Sw,l4⟩:=JC (en:=gF) hB3 (by omega) rfl
 refine ⟨(num,who,rank,wh,lo,hi),C4,some (.ow (.list [.int lo,.int hi])),some (.im (.str who)),some (.im (.str wh)),?_,⟨hnum,m1,⟨r1,r9⟩,m2,⟨a1,a2,a3⟩⟩,rfl,Sw.mono (by omega),by omega⟩
 have s1:=fZ (i:=8) e1
 have s2:=uy (is:=[9,10]) (Es e2 e3) rfl (by show 2≤1000000; omega)
 have x1:aC aR (au 8) (ao (az (.int 0))) gF C4=some (.im (.int lo),gF,C4):=aO (x:=.list [.int lo,.int hi]) (e1:=gF) (e2:=gF) rfl (aF rfl rfl) Hh
 have x2:aC aR (au 8) (ao (az (.int 1))) gF C4=some (.im (.int hi),gF,C4):=aO (x:=.list [.int lo,.int hi]) (e1:=gF) (e2:=gF) rfl (aF rfl rfl) (by simp [aR,nJ,j0,oV])
 have s3:=uw (i:=4) (env:=gF) (ds:=rk.map bh) rfl (qR (ds:=[.int num,.str who,.int rank,.str wh,.int lo,.int hi]) (dh (f:=aH 7) (e1:=gF) rfl (dh (f:=aH 9) (e1:=gF) rfl (dh e4 (dh (f:=aH 10) (e1:=gF) rfl (dh x1 (dh x2 (show aG gF C4=some ([],gF,C4) from rfl))))))) rfl (by show 6≤1000000; omega)) rfl rfl (by rw [List.length_map]; omega)
 refine (seq_eq s1).trans ((seq_eq s2).trans (s3.trans ?_))
 unfold mH
 rw [List.map_append]
 rfl
theorem Fd {C:Ce} {b:Nat} {n num:Int} {zs own:List Str} {ps rk lv ru v8 v9 v10 v11 fH dO d8 eY lD lE jy} (h:Bx C b n) (hn:n≤700000) (h9:zs.length=9) (hz:zs.Nodup) (ho:0 < own.length) (Qp:own.length≤8) (hnum:0≤num∧num≤2000) (hl:lv.length < 1000):
  ∃r C' w8 w10 w11 w12,jJ (mH b zs ps own rk lv ru (some (.im (.int num))) v8 v9 v10 v11 fH dO d8 eY lD lE jy) C=some (.nx,mH b zs ps own rk (lv++[r]) ru (some (.im (.int num))) w8 v9 w10 w11 w12 dO d8 eY lD lE jy,C')∧vI zs own r∧r.1=num∧Bx C' b (n + 20)∧C'.length=C.length:=by
 obtain ⟨lo,hi,C1,e1,a1,a2,a3,mG,l1⟩:=Fb (en:=mH b zs ps own rk lv ru (some (.im (.int num))) v8 v9 v10 v11 fH dO d8 eY lD lE jy) h (by omega) rfl
 obtain ⟨at_,C2,e2,c1,c2,hB2,l2⟩:=vM (en:=mH b zs ps own rk lv ru (some (.im (.int num))) v8 v9 v10 v11 fH dO d8 eY lD lE jy) (fm:=az (.int 9)) (m:=9) mG (by omega) rfl rfl (by omega) (by omega)
 let jZ:=mH b zs ps own rk lv ru (some (.im (.int num))) (some (.ow (.list [.int lo,.int hi]))) v9 v10 (some (.im (.int at_))) fH dO d8 eY lD lE jy
 obtain ⟨t,C3,e3,c3,c4,hB3,l3⟩:=vM (en:=jZ) (fm:=az (.int 8)) (m:=8) hB2 (by omega) rfl rfl (by omega) (by omega)
 have q0:0≤(at_ + 1 + t) % 9:=Int.emod_nonneg _ (by omega)
 have q1:(at_ + 1 + t) % 9 < 9:=Int.emod_lt_of_pos _ (by omega)
 have q2:(at_ + 1 + t) % 9≠at_:=by omega
 obtain ⟨tk,mt,ht,it⟩:=oM (zs:=zs) q0 (by omega)
 obtain ⟨gv,mg,hg,ig⟩:=oM (zs:=zs) c1 (by omega)
 have hne:gv≠tk:=fun z=>by
  subst z
  have e1:=List.getElem?_eq_some_iff.mp ht
  have e2:=List.getElem?_eq_some_iff.mp hg
  obtain ⟨x1,y1⟩:=e1
  obtain ⟨x2,y2⟩:=e2
  rcases Nat.lt_trichotomy ((at_ + 1 + t) % 9).toNat at_.toNat with hlt | heq | hgt
  ·exact List.pairwise_iff_getElem.mp hz _ _ x1 x2 hlt (y1.trans y2.symm)
  ·omega
  ·exact List.pairwise_iff_getElem.mp hz _ _ x2 x1 hgt (y2.trans y1.symm)
 have w1:aC aR (au 1) (ao (aC jB (ao (aC aQ (ao (aC aQ (au 11) (ao (az (.int 1))))) (ao (aU aM (aa (aH 0) (aa (az (.int 8)) aG)))))) (ao (az (.int 9))))) jZ C2=some (.im (.str tk),jZ,C3):=
  aO (x:=.list (zs.map .str)) (e1:=jZ) rfl (aF (aO (y:=.int 9) (aF (aO (op:=aQ) (x:=.int (at_ + 1)) (aF (aO (op:=aQ) (x:=.int at_) (y:=.int 1) (e1:=jZ) (e2:=jZ) rfl (aF rfl rfl) rfl) rfl) (aF e3 rfl) rfl) rfl) (aF rfl rfl) (mod_eq (by omega))) rfl) it
 obtain ⟨wh,k2,C4,e4,m2,_,Sw,l4⟩:=vL (en:=jZ) (s:=3) (fm:=bC iU (aP (au 3) bF)) (m:=own.length) (ys:=own) hB3 (by omega) rfl rfl rfl (BW rfl rfl) (by omega) (by omega) (by omega)
 let gF:=mH b zs ps own rk lv ru (some (.im (.int num))) (some (.ow (.list [.int lo,.int hi]))) v9 (some (.im (.str wh))) (some (.im (.int at_))) (some (.im (.str tk))) dO d8 eY lD lE jy
 obtain ⟨mo,C5,e5,o1,o2,hB5,l5⟩:=P0 (en:=gF) Sw (by omega) rfl
 refine ⟨(num,gv,tk,wh,lo,hi,mo),C5,some (.ow (.list [.int lo,.int hi])),some (.im (.str wh)),some (.im (.int at_)),some (.im (.str tk)),?_,⟨hnum,mg,mt,hne,m2,⟨a1,a2,a3⟩,⟨o1,o2⟩⟩,rfl,hB5.mono (by omega),by omega⟩
 have s1:=uy (is:=[8,11]) (Es e1 e2) rfl (by show 2≤1000000; omega)
 have s2:=uy (is:=[12,10]) (Es w1 e4) rfl (by show 2≤1000000; omega)
 have x0:aC aR (au 1) (au 11) gF C4=some (.im (.str gv),gF,C4):=aO (x:=.list (zs.map .str)) (y:=.int at_) (e1:=gF) (e2:=gF) rfl rfl ig
 have x1:aC aR (au 8) (ao (az (.int 0))) gF C4=some (.im (.int lo),gF,C4):=aO (x:=.list [.int lo,.int hi]) (e1:=gF) (e2:=gF) rfl (aF rfl rfl) Hh
 have x2:aC aR (au 8) (ao (az (.int 1))) gF C4=some (.im (.int hi),gF,C4):=aO (x:=.list [.int lo,.int hi]) (e1:=gF) (e2:=gF) rfl (aF rfl rfl) (by simp [aR,nJ,j0,oV])
 have s3:=uw (i:=5) (env:=gF) (ds:=lv.map jN) rfl (qR (ds:=[.int num,.str gv,.str tk,.str wh,.int lo,.int hi,.int mo]) (dh (f:=aH 7) (e1:=gF) rfl (dh x0 (dh (f:=aH 12) (e1:=gF) rfl (dh (f:=aH 10) (e1:=gF) rfl (dh x1 (dh x2 (dh e5 (show aG gF C5=some ([],gF,C5) from rfl)))))))) rfl (by show 7≤1000000; omega)) rfl rfl (by rw [List.length_map]; omega)
 refine (seq_eq s1).trans ((seq_eq s2).trans (s3.trans ?_))
 unfold mH
 rw [List.map_append]
 rfl
end pN
set_option maxHeartbeats 4000000
namespace pN
open PySem L2
def jr (p:Str) (s:Int):PyData:=.tuple [.str p,.int s]
def cU (rs:List eO):List (PyData×PyData):=rs.map fun r=>(jr r.1 r.2.1,dU r.2.2)
def uT (p:Str) (s:Int) (q:eO):Bool:=decide (q.1=p∧q.2.1=s)
def Hw (rs:List eO) (p:Str) (s:Int) (ss:List pM):List eO:=if rs.any (uT p s) then rs.map (fun q=>if uT p s q then (q.1,q.2.1,ss) else q) else rs++[(p,s,ss)]
theorem vN (p:Str) (s:Int):fj (jr p s)=some [.inr p,.inl s]:=rfl
theorem BZ:∀rs:List eO,cV fj (cU rs)=some (rs.map fun r=>[.inr r.1,.inl r.2.1])
 | []=>rfl
 | r::rs=>by
  rw [show cU (r::rs)=(jr r.1 r.2.1,dU r.2.2)::cU rs from rfl]
  unfold cV
  rw [BZ rs]
  simp only [vN]
  rfl
theorem JD (p:Str) (s:Int) (q:eO):decide (fj (jr q.1 q.2.1)=some [.inr p,.inl s])=uT p s q:=by
 rw [vN,Bool.eq_iff_iff]
 unfold uT
 simp
theorem Wx (rs:List eO) (p:Str) (s:Int) (ss:List pM):putD (cU rs) (jr p s) (dU ss)=some (cU (Hw rs p s ss)):=by
 have h:putD (cU rs) (jr p s) (dU ss)=some (nP fj [.inr p,.inl s] (jr p s) (dU ss) (cU rs)):=by
  show (if (cV fj (cU rs)).isSome then some (nP fj [.inr p,.inl s] (jr p s) (dU ss) (cU rs)) else none)=_
  rw [BZ]
  rfl
 rw [h]
 congr 1
 unfold nP Hw
 have ha:((cU rs).any fun q=>decide (fj q.1=some [.inr p,.inl s]))=rs.any (uT p s):=by
  unfold cU
  rw [List.any_map]
  congr 1
  funext q
  exact JD p s q
 rw [ha]
 cases hb:rs.any (uT p s) with
 | true=>
  rw [if_pos rfl,if_pos rfl]
  unfold cU
  rw [List.map_map,List.map_map]
  congr 1
  funext q
  show (if fj (jr q.1 q.2.1)=some [.inr p,.inl s] then (jr q.1 q.2.1,dU ss) else (jr q.1 q.2.1,dU q.2.2))=_
  have:=JD p s q
  cases hs:uT p s q with
  | true=>
   rw [hs] at this
   rw [if_pos (of_decide_eq_true this)]
   simp [hs]
  | false=>
   rw [hs] at this
   rw [if_neg (of_decide_eq_false this)]
   simp [hs]
 | false=>
  rw [if_neg (by decide),if_neg (by decide)]
  unfold cU
  rw [List.map_append]
  rfl
abbrev Le (r:eO):Str×Int:=(r.1,r.2.1)
theorem Sy {own:List Str} {rs:List eO} {p:Str} {s:Int} {ss:List pM} (h:∀r∈rs,nZ own r) (hr:nZ own (p,s,ss)) (nd:(rs.map Le).Nodup):(∀r∈Hw rs p s ss,nZ own r)∧((Hw rs p s ss).map Le).Nodup∧(Hw rs p s ss).length≤rs.length + 1:=by
 unfold Hw
 split
 ·refine ⟨fun r m=>?_,?_,by rw [List.length_map]; omega⟩
  ·obtain ⟨q,hq,rfl⟩:=List.mem_map.mp m
   split
   ·rename_i hs
    have e:q.1=p∧q.2.1=s:=of_decide_eq_true hs
    have:=h q hq
    exact ⟨this.part,this.sum,hr.many,hr.Um⟩
   ·exact h q hq
  ·rw [List.map_map]
   have:(Le ∘ fun q:eO=>if uT p s q=true then (q.1,q.2.1,ss) else q)=Le:=by
    funext q
    show Le (if _ then _ else _)=_
    split <;> rfl
   rw [this]
   exact nd
 ·rename_i hn
  refine ⟨fun r m=>?_,?_,by simp⟩
  ·rcases List.mem_append.mp m with m | m
   ·exact h r m
   ·rw [List.mem_singleton.mp m]; exact hr
  ·rw [List.map_append,List.nodup_append]
   refine ⟨nd,by simp,fun x hx y hy e=>?_⟩
   have hy':y=(p,s):=List.mem_singleton.mp hy
   subst e
   obtain ⟨q,hq,hqe⟩:=List.mem_map.mp hx
   refine hn (List.any_eq_true.mpr ⟨q,hq,?_⟩)
   rw [hy'] at hqe
   have h1:q.1=p:=congrArg Prod.fst hqe
   have h2:q.2.1=s:=congrArg Prod.snd hqe
   exact decide_eq_true ⟨h1,h2⟩
theorem Qa {C:Ce} {b:Nat} {n m:Int} {zs own:List Str} {ps rk lv ru v7 v8 v9 v10 v11 fH dO d8 lD lE jy} (h:Bx C b n) (hn:n≤600000) (Qp:own.length≤8) (m0:0≤m) (m6:m≤6):
  ∃(ss:List pM) (C':Ce) (w16 w17:Option Vl),kj (gh 16) lW (nQ 0 m.toNat) (mH b zs ps own rk lv ru v7 v8 v9 v10 v11 fH dO d8 (some (.ow (.list []))) lD lE jy) C=some (.nx,mH b zs ps own rk lv ru v7 v8 v9 v10 v11 fH dO d8 (some (.ow (.list (ss.map lg)))) w16 w17 jy,C')∧ss.length≤6∧(∀s∈ss,Hl own s)∧Bx C' b (n + 20)∧C'.length=C.length:=by
 obtain ⟨env',C',e,ss,w16,w17,he,hl,hS,hB,hC⟩:=cZ (g:=gh 16) (body:=lW) (its:=nQ 0 m.toNat) (env:=mH b zs ps own rk lv ru v7 v8 v9 v10 v11 fH dO d8 (some (.ow (.list []))) lD lE jy) (C:=C)
  (fun i env C1=>∃(ss:List pM) (w16 w17:Option Vl),env=mH b zs ps own rk lv ru v7 v8 v9 v10 v11 fH dO d8 (some (.ow (.list (ss.map lg)))) w16 w17 jy∧ss.length=i∧(∀s∈ss,Hl own s)∧Bx C1 b (n + 3 * i)∧C1.length=C.length)
  ⟨[],lD,lE,rfl,rfl,(fun _ m=>nomatch m),h.mono (by omega),rfl⟩ (fun i d env C1 hd hI=>by
   obtain ⟨ss,w16,w17,rfl,hl,hS,hB,hC⟩:=hI
   obtain ⟨rfl,hi⟩:=nW hd
   let en:=mH b zs ps own rk lv ru v7 v8 v9 v10 v11 fH dO d8 (some (.ow (.list (ss.map lg)))) (some (.im (.int (0 + i)))) w17 jy
   have t0:aC aQ (ao (az (.int 2))) (ao (bC iU (aP (au 3) bF))) en C1=some (.im (.int (2 + own.length)),en,C1):=aO (x:=.int 2) (e1:=en) (aF rfl rfl) (aF (BW rfl rfl) rfl) rfl
   obtain ⟨k,C2,e1,a1,b1,mG,l1⟩:=vM (en:=en) (m:=2 + own.length) hB (by omega) rfl t0 (by omega) (by omega)
   have t1:aC aQ (ao (bH (aa (az (.str (Str.ofString ""))) (aa (az (.str (Str.ofString ""))) aG)))) (au 3) en C1=some (.ow (.list ((Str.ofString ""::Str.ofString ""::own).map .str)),en,C1):=by
    refine aO (x:=.list [.str (Str.ofString ""),.str (Str.ofString "")]) (y:=.list (own.map .str)) (e1:=en) (e2:=en) (aF (r:=.ow (.list [.str (Str.ofString ""),.str (Str.ofString "")])) rfl rfl) rfl ?_
    simp only [aQ]
    exact if_pos (by rw [List.length_map]; show 2 + own.length≤1000000; omega)
   obtain ⟨pt,mp,_,ip⟩:=oM (zs:=Str.ofString ""::Str.ofString ""::own) (k:=k) a1 (by rw [List.length_cons,List.length_cons]; omega)
   have s1:=fZ (i:=17) (aO (aF t1 rfl) (aF e1 rfl) ip)
   let gF:=mH b zs ps own rk lv ru v7 v8 v9 v10 v11 fH dO d8 (some (.ow (.list (ss.map lg)))) (some (.im (.int (0 + i)))) (some (.im (.str pt))) jy
   obtain ⟨rank,C3,e2,r1,r9,hB3,l3⟩:=JC (en:=gF) mG (by omega) rfl
   have s2:=uw (i:=15) (env:=gF) (ds:=ss.map lg) rfl (qR (ds:=[.int rank,.str pt]) (dh e2 (dh (f:=aH 17) (e1:=gF) rfl (show aG gF C3=some ([],gF,C3) from rfl))) rfl (by show 2≤1000000; omega)) rfl rfl (by rw [List.length_map]; omega)
   refine ⟨en,.nx,_,C3,rfl,(seq_eq s1).trans s2,.inl rfl,ss++[(rank,pt)],some (.im (.int (0 + i))),some (.im (.str pt)),?_,by simp [hl],fun s hs=>?_,hB3.mono (by omega),by omega⟩
   ·unfold mH
    rw [List.map_append]
    rfl
   ·rcases List.mem_append.mp hs with hs | hs
    ·exact hS s hs
    ·rw [List.mem_singleton.mp hs]
     refine ⟨r1,r9,?_⟩
     rcases List.mem_cons.mp mp with e | mp
     ·exact .inl e
     ·rcases List.mem_cons.mp mp with e | mp
      ·exact .inl e
      ·exact .inr mp)
 rw [mX] at hl hB
 subst he
 exact ⟨ss,C',w16,w17,e,by omega,hS,hB.mono (by omega),hC⟩
theorem Hz {C:Ce} {b:Nat} {n:Int} {zs own:List Str} {rs:List eO} {ps rk lv v7 v8 v9 v10 v11 fH dO d8 eY lD lE jy} (h:Bx C b n) (hn:n≤500000) (ho:0 < own.length) (Qp:own.length≤8) (hl:rs.length < 1000) (hr:∀r∈rs,nZ own r) (nd:(rs.map Le).Nodup):
  ∃(rs':List eO) (C':Ce) (w14 w15 w16 w17:Option Vl),jH (mH b zs ps own rk lv (cU rs) v7 v8 v9 v10 v11 fH dO d8 eY lD lE jy) C=some (.nx,mH b zs ps own rk lv (cU rs') v7 v8 v9 v10 v11 fH dO w14 w15 w16 w17 jy,C')∧(∀r∈rs',nZ own r)∧(rs'.map Le).Nodup∧rs'.length≤rs.length + 1∧Bx C' b (n + 40)∧C'.length=C.length:=by
 let en:=mH b zs ps own rk lv (cU rs) v7 v8 v9 v10 v11 fH dO d8 eY lD lE jy
 obtain ⟨wh,k2,C1,e1,m1,_,mG,l1⟩:=vL (en:=en) (s:=3) (fm:=bC iU (aP (au 3) bF)) (m:=own.length) (ys:=own) h (by omega) rfl rfl rfl (BW rfl rfl) (by omega) (by omega) (by omega)
 obtain ⟨sm,C2,e2,o1,o2,hB2,l2⟩:=P0 (en:=en) mG (by omega) rfl
 have t1:=qR (ds:=[.str wh,.int sm]) (uN e1 e2) rfl (by show 2≤1000000; omega)
 have s1:=uy (is:=[14,15]) (Es t1 (show bH aG en C2=some (.ow (.list []),en,C2) from rfl)) rfl (by show 2≤1000000; omega)
 obtain ⟨m,C3,e3,a3,b3,hB3,l3⟩:=tB (m:=6) hB2 (by omega) (by omega) (by omega)
 let jZ:=mH b zs ps own rk lv (cU rs) v7 v8 v9 v10 v11 fH dO (some (.im (jr wh sm))) (some (.ow (.list []))) lD lE jy
 obtain ⟨ss,C4,w16,w17,e4,s6,hS,Sw,l4⟩:=Qa (zs:=zs) (own:=own) (ps:=ps) (rk:=rk) (lv:=lv) (ru:=cU rs) (v7:=v7) (v8:=v8) (v9:=v9) (v10:=v10) (v11:=v11) (fH:=fH) (dO:=dO) (d8:=some (.im (jr wh sm))) (lD:=lD) (lE:=lE) (jy:=jy) hB3 (by omega) Qp a3 b3
 have s2:dB (zx (ao (aU eX (aa (aH 0) (aa (az (.int 6)) aG))))) (gh 16) lW jZ C2=_:=(kZ (Bs (m:=m) (e1:=jZ) (aF (cR (xs:=[.ce b,.im (.int 6)]) (e1:=jZ) rfl e3) rfl) (by omega) (by omega))).trans e4
 let gF:=mH b zs ps own rk lv (cU rs) v7 v8 v9 v10 v11 fH dO (some (.im (jr wh sm))) (some (.ow (.list (ss.map lg)))) w16 w17 jy
 have hlk:(cU rs).length < 1000000:=by unfold cU; rw [List.length_map]; omega
 have rok:nZ own (wh,sm,ss):=⟨m1,⟨o1,o2⟩,s6,hS⟩
 obtain ⟨p1,p2,p3⟩:=Sy hr rok nd
 have t2:bC eV (aP (au 15) bF) gF C4=some (.im (dU ss),rst (.im (dU ss)) gF gF,C4):=fK (d:=.list (ss.map lg)) (e1:=gF) rfl rfl
 have t3:rst (.im (dU ss)) gF gF=gF:=by show (if _ then gF else gF)=gF; split <;> rfl
 rw [t3] at t2
 have s3:=Pj (i:=6) (fk:=au 14) (dk:=jr wh sm) (e2:=gF) (kvs:=cU rs) t2 rfl rfl rfl rfl (Wx rs wh sm ss) hlk
 exact ⟨Hw rs wh sm ss,C4,some (.im (jr wh sm)),some (.ow (.list (ss.map lg))),w16,w17,(seq_eq s1).trans ((seq_eq s2).trans s3),p1,p2,p3,Sw.mono (by omega),by omega⟩
end pN
set_option maxHeartbeats 4000000
namespace pN
open PySem L2
theorem bZ (r:Vl) (e:En):rst r e e=e:=by
 cases r <;> simp [rst]
theorem JF {ns:List Int} {i:Nat} {d:PyData} (h:(ns.map PyData.int)[i]?=some d):∃x,d=.int x∧ns[i]?=some x∧x∈ns∧i < ns.length:=by
 rw [List.getElem?_map] at h
 cases hx:ns[i]? with
 | none=>rw [hx] at h; cases h
 | some x=>
  rw [hx] at h
  exact ⟨x,(Option.some.inj h).symm,rfl,List.mem_of_getElem? hx,(List.getElem?_eq_some_iff.mp hx).1⟩
theorem take_snoc {ns:List Int} {i:Nat} {x:Int} (h:ns[i]?=some x):ns.take (i + 1)=ns.take i++[x]:=by
 rw [List.take_add_one,h]
 rfl
theorem Qc {C:Ce} {b:Nat} {n:Int} {zs own:List Str} {ns:List Int} {ps lv ru v7 v8 v9 v10 v11 fH dO d8 eY lD lE jy} (h:Bx C b n) (hn:n≤600000) (h9:zs.length=9) (ho:0 < own.length) (Qp:own.length≤8) (hns:∀x∈ns,0≤x∧x≤2000) (hl:ns.length≤20):
  ∃(rk:List mY) (C':Ce) (w7 w8 w9 w10:Option Vl),kj (gh 7) jK (ns.map .int) (mH b zs ps own [] lv ru v7 v8 v9 v10 v11 fH dO d8 eY lD lE jy) C=some (.nx,mH b zs ps own rk lv ru w7 w8 w9 w10 v11 fH dO d8 eY lD lE jy,C')∧rk.map (·.1)=ns∧(∀r∈rk,Bt zs own r)∧Bx C' b (n + 400)∧C'.length=C.length:=by
 obtain ⟨env',C',e,rk,w7,w8,w9,w10,he,hm,hR,hB,hC⟩:=cZ (g:=gh 7) (body:=jK) (its:=ns.map .int) (env:=mH b zs ps own [] lv ru v7 v8 v9 v10 v11 fH dO d8 eY lD lE jy) (C:=C)
  (fun i env C1=>∃(rk:List mY) (w7 w8 w9 w10:Option Vl),env=mH b zs ps own rk lv ru w7 w8 w9 w10 v11 fH dO d8 eY lD lE jy∧rk.map (·.1)=ns.take i∧(∀r∈rk,Bt zs own r)∧Bx C1 b (n + 20 * i)∧C1.length=C.length)
  ⟨[],v7,v8,v9,v10,rfl,rfl,(fun _ m=>nomatch m),h.mono (by omega),rfl⟩ (fun i d env C1 hd hI=>by
   obtain ⟨rk,w7,w8,w9,w10,rfl,hm,hR,hB,hC⟩:=hI
   obtain ⟨x,rfl,hx,mx,hi⟩:=JF hd
   have hrk:rk.length=i:=by
    have:=congrArg List.length hm
    rw [List.length_map,List.length_take] at this
    omega
   obtain ⟨r,C2,u8,u9,Wq,e1,r1,r2,mG,l1⟩:=Hv (zs:=zs) (own:=own) (ps:=ps) (rk:=rk) (lv:=lv) (ru:=ru) (v8:=w8) (v9:=w9) (v10:=w10) (v11:=v11) (fH:=fH) (dO:=dO) (d8:=d8) (eY:=eY) (lD:=lD) (lE:=lE) (jy:=jy) (num:=x) hB (by omega) h9 ho Qp (hns x mx) (by omega)
   refine ⟨_,.nx,_,C2,rfl,e1,.inl rfl,rk++[r],some (.im (.int x)),u8,u9,Wq,rfl,?_,fun y hy=>?_,mG.mono (by omega),by omega⟩
   ·rw [List.map_append,hm,take_snoc hx]
    show _++[r.1]=_
    rw [r2]
   ·rcases List.mem_append.mp hy with hy | hy
    ·exact hR y hy
    ·rw [List.mem_singleton.mp hy]; exact r1)
 rw [List.length_map] at hm hB
 subst he
 exact ⟨rk,C',w7,w8,w9,w10,e,by rw [hm,List.take_length],hR,hB.mono (by omega),hC⟩
theorem Lf {C:Ce} {b:Nat} {n:Int} {zs own:List Str} {ns:List Int} {ps rk ru v7 v8 v9 v10 v11 fH dO d8 eY lD lE jy} (h:Bx C b n) (hn:n≤600000) (h9:zs.length=9) (hz:zs.Nodup) (ho:0 < own.length) (Qp:own.length≤8) (hns:∀x∈ns,0≤x∧x≤2000) (hl:ns.length≤16):
  ∃(lv:List qQ) (C':Ce) (w7 w8 w10 w11 w12:Option Vl),kj (gh 7) jJ (ns.map .int) (mH b zs ps own rk [] ru v7 v8 v9 v10 v11 fH dO d8 eY lD lE jy) C=some (.nx,mH b zs ps own rk lv ru w7 w8 v9 w10 w11 w12 dO d8 eY lD lE jy,C')∧lv.map (·.1)=ns∧(∀r∈lv,vI zs own r)∧Bx C' b (n + 400)∧C'.length=C.length:=by
 obtain ⟨env',C',e,lv,w7,w8,w10,w11,w12,he,hm,hR,hB,hC⟩:=cZ (g:=gh 7) (body:=jJ) (its:=ns.map .int) (env:=mH b zs ps own rk [] ru v7 v8 v9 v10 v11 fH dO d8 eY lD lE jy) (C:=C)
  (fun i env C1=>∃(lv:List qQ) (w7 w8 w10 w11 w12:Option Vl),env=mH b zs ps own rk lv ru w7 w8 v9 w10 w11 w12 dO d8 eY lD lE jy∧lv.map (·.1)=ns.take i∧(∀r∈lv,vI zs own r)∧Bx C1 b (n + 20 * i)∧C1.length=C.length)
  ⟨[],v7,v8,v10,v11,fH,rfl,rfl,(fun _ m=>nomatch m),h.mono (by omega),rfl⟩ (fun i d env C1 hd hI=>by
   obtain ⟨lv,w7,w8,w10,w11,w12,rfl,hm,hR,hB,hC⟩:=hI
   obtain ⟨x,rfl,hx,mx,hi⟩:=JF hd
   have hrk:lv.length=i:=by
    have:=congrArg List.length hm
    rw [List.length_map,List.length_take] at this
    omega
   obtain ⟨r,C2,u8,Wq,YD,SJ,e1,r1,r2,mG,l1⟩:=Fd (zs:=zs) (own:=own) (ps:=ps) (rk:=rk) (lv:=lv) (ru:=ru) (v8:=w8) (v9:=v9) (v10:=w10) (v11:=w11) (fH:=w12) (dO:=dO) (d8:=d8) (eY:=eY) (lD:=lD) (lE:=lE) (jy:=jy) (num:=x) hB (by omega) h9 hz ho Qp (hns x mx) (by omega)
   refine ⟨_,.nx,_,C2,rfl,e1,.inl rfl,lv++[r],some (.im (.int x)),u8,Wq,YD,SJ,rfl,?_,fun y hy=>?_,mG.mono (by omega),by omega⟩
   ·rw [List.map_append,hm,take_snoc hx]
    show _++[r.1]=_
    rw [r2]
   ·rcases List.mem_append.mp hy with hy | hy
    ·exact hR y hy
    ·rw [List.mem_singleton.mp hy]; exact r1)
 rw [List.length_map] at hm hB
 subst he
 exact ⟨lv,C',w7,w8,w10,w11,w12,e,by rw [hm,List.take_length],hR,hB.mono (by omega),hC⟩
theorem Qd {C:Ce} {b:Nat} {n m:Int} {zs own:List Str} {ps rk lv v7 v8 v9 v10 v11 fH dO d8 eY lD lE jy} (h:Bx C b n) (hn:n≤400000) (ho:0 < own.length) (Qp:own.length≤8) (m0:0≤m) (m10:m≤10):
  ∃(rs:List eO) (C':Ce) (w13 w14 w15 w16 w17:Option Vl),kj (gh 13) jH (nQ 0 m.toNat) (mH b zs ps own rk lv [] v7 v8 v9 v10 v11 fH dO d8 eY lD lE jy) C=some (.nx,mH b zs ps own rk lv (cU rs) v7 v8 v9 v10 v11 fH w13 w14 w15 w16 w17 jy,C')∧rs.length≤10∧(∀r∈rs,nZ own r)∧(rs.map Le).Nodup∧Bx C' b (n + 400)∧C'.length=C.length:=by
 obtain ⟨env',C',e,rs,w13,w14,w15,w16,w17,he,hm,hR,hN,hB,hC⟩:=cZ (g:=gh 13) (body:=jH) (its:=nQ 0 m.toNat) (env:=mH b zs ps own rk lv [] v7 v8 v9 v10 v11 fH dO d8 eY lD lE jy) (C:=C)
  (fun i env C1=>∃(rs:List eO) (w13 w14 w15 w16 w17:Option Vl),env=mH b zs ps own rk lv (cU rs) v7 v8 v9 v10 v11 fH w13 w14 w15 w16 w17 jy∧rs.length≤i∧(∀r∈rs,nZ own r)∧(rs.map Le).Nodup∧Bx C1 b (n + 40 * i)∧C1.length=C.length)
  ⟨[],dO,d8,eY,lD,lE,rfl,Nat.le_refl 0,(fun _ m=>nomatch m),List.nodup_nil,h.mono (by omega),rfl⟩ (fun i d env C1 hd hI=>by
   obtain ⟨rs,w13,w14,w15,w16,w17,rfl,hm,hR,hN,hB,hC⟩:=hI
   obtain ⟨rfl,hi⟩:=nW hd
   obtain ⟨rs',C2,SM,Qq,u16,u17,e1,r1,r2,r3,mG,l1⟩:=Hz (zs:=zs) (own:=own) (ps:=ps) (rk:=rk) (lv:=lv) (rs:=rs) (v7:=v7) (v8:=v8) (v9:=v9) (v10:=v10) (v11:=v11) (fH:=fH) (dO:=some (.im (.int (0 + i)))) (d8:=w14) (eY:=w15) (lD:=w16) (lE:=w17) (jy:=jy) hB (by omega) ho Qp (by omega) hR hN
   exact ⟨_,.nx,_,C2,rfl,e1,.inl rfl,rs',_,SM,Qq,u16,u17,rfl,by omega,r1,r2,mG.mono (by omega),by omega⟩)
 rw [mX] at hm hB
 subst he
 exact ⟨rs,C',w13,w14,w15,w16,w17,e,by omega,hR,hN,hB.mono (by omega),hC⟩
theorem SN:∀(rs:List eO),rs.length≤10→∃rs':List eO,rs'.Perm rs∧dN [.dict (cU rs)]=some (.ow (.list (rs'.map fun r=>jr r.1 r.2.1)))
 | [],_=>⟨[],List.Perm.refl _,rfl⟩
 | r::rs,h=>by
  rw [List.length_cons] at h
  have hall:((cU (r::rs)).all fun p=>decide (vd p.1=some [false,true]))=true:=by
   rw [List.all_eq_true]
   intro p hp
   obtain ⟨q,_,rfl⟩:=List.mem_map.mp hp
   exact decide_eq_true rfl
  have e:dN [.dict (cU (r::rs))]=some (.ow (.list (fV Jp ((cU (r::rs)).map (·.1))))):=by
   have h2:vH [.dict (cU (r::rs))]=some (.ow (.list (fV Jp ((cU (r::rs)).map (·.1))))):=by
    show (if (cU rs).length < 63∧((cU (r::rs)).all fun p=>decide (vd p.1=some [false,true]))=true then some (Vl.ow (.list (fV Jp ((cU (r::rs)).map (·.1))))) else none)=_
    exact if_pos ⟨by unfold cU; rw [List.length_map]; omega,hall⟩
   unfold dN
   rw [show kW [.dict (cU (r::rs))]=none from rfl,h2]
  have p:=kO (lt:=Jp) ((cU (r::rs)).map (·.1))
  have em:(cU (r::rs)).map (·.1)=(r::rs).map fun r=>jr r.1 r.2.1:=by
   unfold cU
   rw [List.map_map]
   rfl
  rw [em] at p
  obtain ⟨rs',p1,p2⟩:=sJ p
  exact ⟨rs',p1,by rw [e,em,p2]⟩
theorem JG:∀{rs:List eO} {r:eO},r∈rs→(rs.map Le).Nodup→j5 fj [.inr r.1,.inl r.2.1] (cU rs)=some (dU r.2.2)
 | q::rs,r,hm,hn=>by
  rw [List.map_cons,List.nodup_cons] at hn
  show (if fj (jr q.1 q.2.1)=some [.inr r.1,.inl r.2.1] then some (dU q.2.2) else j5 fj [.inr r.1,.inl r.2.1] (cU rs))=_
  rcases List.mem_cons.mp hm with rfl | hm
  ·rw [if_pos (vN _ _)]
  ·rw [if_neg,JG hm hn.2]
   intro e
   rw [vN] at e
   have e1:q.1=r.1:=by injection e with e; injection e with e1 e2; injection e1
   have e2:q.2.1=r.2.1:=by injection e with e; injection e with e1 e2; injection e2 with e2 _; injection e2
   exact hn.1 (List.mem_map.mpr ⟨r,hm,by show (r.1,r.2.1)=(q.1,q.2.1); rw [e1,e2]⟩)
theorem YF {rs:List eO} {r:eO} (hm:r∈rs) (hn:(rs.map Le).Nodup):aR (.dict (cU rs)) (jr r.1 r.2.1)=some (.im (dU r.2.2)):=by
 have h:lH (cU rs) (jr r.1 r.2.1)=some (some (dU r.2.2)):=by
  show (if (cV fj (cU rs)).isSome then some (j5 fj [.inr r.1,.inl r.2.1] (cU rs)) else none)=_
  rw [BZ,JG hm hn]
  rfl
 unfold aR nJ
 simp only [h,Option.map_some]
theorem zT:∀ss:List pM,dX (ss.map lg)=true
 | []=>rfl
 | s::ss=>by
  show (true&&dX (ss.map lg))=true
  rw [zT ss]
  rfl
theorem zU:∀rs:List eO,dX (rs.map jE)=true
 | []=>rfl
 | r::rs=>by
  show ((true&&(true&&(dX (r.2.2.map lg)&&true)))&&dX (rs.map jE))=true
  rw [zU rs,zT]
  rfl
theorem SQ {en:En} {C:Ce} {rs:List eO} (h6:en[6]?=some (some (.ow (.dict (cU rs))))) (hl:rs.length≤10) (hn:(rs.map Le).Nodup):
  ∃rs':List eO,rs'.Perm rs∧mq (iB (ao (bC dN (aP (au 6) bF)))) .one gj lV [6] en C=some (.ow (.list (rs'.map jE)),en,C):=by
 obtain ⟨rs',p,e⟩:=SN rs hl
 refine ⟨rs',p,?_⟩
 have t0:ao (bC dN (aP (au 6) bF)) en C=some (.list (rs'.map fun r=>jr r.1 r.2.1),en,C):=aF (fK (bv h6 rfl) e) rfl
 refine pL (sI t0 rfl) ?_ (by rw [List.length_map,p.length_eq]; omega) (zU rs')
 have hf:frB [6] en=[some (.im (.dict (cU rs)))]:=by
  unfold frB
  rw [List.map_cons,h6]
  rfl
 rw [hf]
 have key:∀l:List eO,(∀r∈l,r∈rs)→gm .one gj lV [some (.im (.dict (cU rs)))] (l.map fun r=>jr r.1 r.2.1) C=some (l.map jE,C):=by
  intro l
  induction l with
  | nil=>intro _; rfl
  | cons r l ih=>
   intro hs
   have ih':=ih fun x hx=>hs x (List.mem_cons_of_mem _ hx)
   let fs:En:=[some (.im (jr r.1 r.2.1)),some (.im (.dict (cU rs)))]
   have x1:aC aR (au 1) (au 0) fs C=some (.im (dU r.2.2),rst (.im (dU r.2.2)) fs fs,C):=aO (x:=.dict (cU rs)) (y:=jr r.1 r.2.1) (e1:=fs) (e2:=fs) rfl rfl (YF (hs r List.mem_cons_self) hn)
   rw [bZ] at x1
   have x2:lV fs C=some (.im (jE r),rst (.im (jE r)) fs fs,C):=aO (op:=aQ) (x:=jr r.1 r.2.1) (y:=.tuple [dU r.2.2]) (e1:=fs) (e2:=fs) rfl (aF (qR (ds:=[dU r.2.2]) (dh x1 (show aG fs C=some ([],fs,C) from rfl)) rfl (by show 1≤1000000; omega)) rfl) rfl
   rw [List.map_cons]
   unfold gm
   simp only [Ue,gj]
   rw [show qp [jr r.1 r.2.1]++[some (Vl.im (PyData.dict (cU rs)))]=fs from rfl]
   simp only [x2,still,ih']
   rfl
 exact key rs' fun r hr=>p.mem_iff.mp hr
theorem HB:∀(ps:List (Str×Str)),ps.length≤8→∃ps':List (Str×Str),ps'.Perm ps∧dN [.list (ps.map bD)]=some (.ow (.list (ps'.map bD)))
 | [],_=>⟨[],List.Perm.refl _,rfl⟩
 | r::rs,h=>by
  have hall:(((r::rs).map bD).all fun p=>decide (vd p=some [false,false]))=true:=by
   rw [List.all_eq_true]
   intro p hp
   obtain ⟨q,_,rfl⟩:=List.mem_map.mp hp
   exact decide_eq_true rfl
  have hs:xq ((r::rs).map bD)=some (fV Jp ((r::rs).map bD)):=by
   unfold xq
   rw [if_pos (by rw [List.length_map]; omega),show intsOf ((r::rs).map bD)=none from rfl,show strsOf ((r::rs).map bD)=none from rfl]
   show (if (((r::rs).map bD).all fun p=>decide (vd p=some [false,false]))=true then some (fV Jp ((r::rs).map bD)) else none)=_
   exact if_pos hall
  obtain ⟨ps',p1,p2⟩:=sJ (kO (lt:=Jp) ((r::rs).map bD))
  refine ⟨ps',p1,?_⟩
  unfold dN kW
  simp only [hs,p2,Option.map_some]
end pN
set_option maxHeartbeats 4000000
namespace pN
open PySem L2
theorem yu {f:FE} {env e1:En} {C C1:Ce} {r:Vl} (h:f env C=some (r,e1,C1)):dm f env C=some (.rt r,e1,C1):=by
 unfold dm
 simp only [h]
theorem yw {k n:Nat} {body:FS} {xs:List Vl} {en e1:En} {C C1:Ce} {r:Vl} (hk:xs.length=k) (he:xs.map some++List.replicate (n - xs.length) none=en) (h:body en C=some (.rt r,e1,C1)) (hr:dZ C.length r=true) (hC:C1.length=C.length):fN k n body xs C=some (r,C1):=by
 unfold fN
 rw [if_pos hk,he,h]
 simp only [hr,if_true,cQ hC]
theorem Qe {C:Ce} {b:Nat} {n:Int} {zs:List Str} (h:Bx C b n) (hn:n≤100000) (h9:zs.length=9) (hz:zs.Nodup):
  ∃(ps:List (Str×Str)) (ht:jl) (C':Ce),lC [.ce b,.im (.list (zs.map .str))] C=some (.im (.tuple [.list (ps.map bD),bG ht]),C')∧dg zs ps∧1≤ps.length∧mZ zs ps ht∧Bx C' b (n + 2000)∧C'.length=C.length:=by
 obtain ⟨ps,C1,e1,hP,p1,p8,mG,l1⟩:=PX (zs:=zs) h (by omega) (by omega)
 let Zj:En:=[some (.ce b),some (.im (.list (zs.map .str))),none,none,none,none,none,none,none,none,none,none,none,none,none,none,none,none,none]
 let jZ:En:=[some (.ce b),some (.im (.list (zs.map .str))),some (.ow (.list (ps.map bD))),none,none,none,none,none,none,none,none,none,none,none,none,none,none,none,none]
 have s1:bQ 2 (aU lB (aa (aH 0) (aa (aH 1) aG))) Zj C=some (.nx,jZ,C1):=fZ (i:=2) (cR (xs:=[.ce b,.im (.list (zs.map .str))]) (e1:=Zj) rfl e1)
 have ol:(ps.map (·.1)).length=ps.length:=List.length_map ..
 have t1:mq (iB (au 2)) .one gj uR [] jZ C1=some (.ow (.list ((ps.map (·.1)).map .str)),jZ,C1):=
  pL (sI (f:=au 2) (d:=.list (ps.map bD)) (e1:=jZ) rfl rfl) (zR rfl) (by rw [List.length_map,List.length_map]; omega) (jY _)
 have s2:=uy (is:=[3,4,5,6]) (Ju t1 (Ju (show bH aG jZ C1=some (.ow (.list []),jZ,C1) from rfl) (Ju (show bH aG jZ C1=some (.ow (.list []),jZ,C1) from rfl) (Ju (show cI jZ C1=some (.ow (.dict []),jZ,C1) from rfl) (show aG jZ C1=some ([],jZ,C1) from rfl))))) rfl (by show 4≤1000000; omega)
 let own:=ps.map (·.1)
 have ol0:0 < own.length:=by show 0 < (ps.map (·.1)).length; omega
 have ol8:own.length≤8:=by show (ps.map (·.1)).length≤8; omega
 obtain ⟨m2,C2,e2,a2,b2,hB2,l2⟩:=tB (m:=20) mG (by omega) (by omega) (by omega)
 obtain ⟨ns2,C3,e3,a3,r3,u3,hB3,l3⟩:=yq (m:=m2) hB2 (by omega) a2 (by omega)
 obtain ⟨rk,C4,w7,w8,w9,w10,e4,k4,r4,Sw,l4⟩:=Qc (zs:=zs) (own:=own) (ns:=ns2) (ps:=ps) (lv:=[]) (ru:=[]) (v7:=none) (v8:=none) (v9:=none) (v10:=none) (v11:=none) (fH:=none) (dO:=none) (d8:=none) (eY:=none) (lD:=none) (lE:=none) (jy:=none) hB3 (by omega) h9 ol0 ol8 r3 (by omega)
 let gF:=mH b zs ps own [] [] [] none none none none none none none none none none none none
 have s3:dB (iV (aU fM (aa (aH 0) (aa (aU eX (aa (aH 0) (aa (az (.int 20)) aG))) aG)))) (gh 7) jK gF C1=_:=
  (kZ (zF (cR (e1:=gF) (uN (show aH 0 gF C1=some (.ce b,gF,C1) from rfl) (cR (xs:=[.ce b,.im (.int 20)]) (e1:=gF) rfl e2)) e3) rfl rfl)).trans e4
 obtain ⟨m5,C5,e5,a5,b5,hB5,l5⟩:=tB (m:=16) Sw (by omega) (by omega) (by omega)
 obtain ⟨ns5,C6,e6,a6,r6,u6,hB6,l6⟩:=yq (m:=m5) hB5 (by omega) a5 (by omega)
 obtain ⟨lv,C7,x7,x8,x10,x11,x12,e7,k7,r7,hB7,l7⟩:=Lf (zs:=zs) (own:=own) (ns:=ns5) (ps:=ps) (rk:=rk) (ru:=[]) (v7:=w7) (v8:=w8) (v9:=w9) (v10:=w10) (v11:=none) (fH:=none) (dO:=none) (d8:=none) (eY:=none) (lD:=none) (lE:=none) (jy:=none) hB6 (by omega) h9 hz ol0 ol8 r6 (by omega)
 let YG:=mH b zs ps own rk [] [] w7 w8 w9 w10 none none none none none none none none
 have s4:dB (iV (aU fM (aa (aH 0) (aa (aU eX (aa (aH 0) (aa (az (.int 16)) aG))) aG)))) (gh 7) jJ YG C4=_:=
  (kZ (zF (cR (e1:=YG) (uN (show aH 0 YG C4=some (.ce b,YG,C4) from rfl) (cR (xs:=[.ce b,.im (.int 16)]) (e1:=YG) rfl e5)) e6) rfl rfl)).trans e7
 obtain ⟨m8,C8,e8,a8,b8,hB8,l8⟩:=tB (m:=10) hB7 (by omega) (by omega) (by omega)
 obtain ⟨rs,C9,y13,y14,y15,y16,y17,e9,k9,r9,n9,hB9,l9⟩:=Qd (m:=m8) (zs:=zs) (own:=own) (ps:=ps) (rk:=rk) (lv:=lv) (v7:=x7) (v8:=x8) (v9:=w9) (v10:=x10) (v11:=x11) (fH:=x12) (dO:=none) (d8:=none) (eY:=none) (lD:=none) (lE:=none) (jy:=none) hB8 (by omega) ol0 ol8 a8 b8
 let en4:=mH b zs ps own rk lv [] x7 x8 w9 x10 x11 x12 none none none none none none
 have s5:dB (zx (ao (aU eX (aa (aH 0) (aa (az (.int 10)) aG))))) (gh 13) jH en4 C7=_:=(kZ (Bs (m:=m8) (e1:=en4) (aF (cR (xs:=[.ce b,.im (.int 10)]) (e1:=en4) rfl e8) rfl) (by omega) (by omega))).trans e9
 let en5:=mH b zs ps own rk lv (cU rs) x7 x8 w9 x10 x11 x12 y13 y14 y15 y16 y17 none
 obtain ⟨rs',q1,e10⟩:=SQ (en:=en5) (C:=C9) rfl k9 n9
 have s6:=fZ (i:=18) e10
 obtain ⟨ps',q2,e11⟩:=HB ps p8
 let Ca:En:=[some (.ce b),some (.im (.list (zs.map .str))),some (.im (.list (ps.map bD))),some (.ow (.list (own.map .str))),some (.ow (.list (rk.map bh))),some (.ow (.list (lv.map jN))),some (.ow (.dict (cU rs))),x7,x8,w9,x10,x11,x12,y13,y14,y15,y16,y17,some (.ow (.list (rs'.map jE)))]
 have z1:bC eV (aP (ao (bC dN (aP (au 2) bF))) bF) Ca C9=some (.im (.tuple (ps'.map bD)),Ca,C9):=
  (fK (op:=eV) (d:=.list (ps'.map bD)) (e1:=Ca) (aF (fK (op:=dN) (e1:=Ca) (bv (i:=2) rfl rfl) e11) rfl) rfl).trans (by rw [bZ])
 have z2:bC eV (aP (au 4) bF) Ca C9=some (.im (.tuple (rk.map bh)),Ca,C9):=(fK (op:=eV) (d:=.list (rk.map bh)) (e1:=Ca) rfl rfl).trans (by rw [bZ])
 have z3:bC eV (aP (au 5) bF) Ca C9=some (.im (.tuple (lv.map jN)),Ca,C9):=(fK (op:=eV) (d:=.list (lv.map jN)) (e1:=Ca) rfl rfl).trans (by rw [bZ])
 have z4:bC eV (aP (au 18) bF) Ca C9=some (.im (.tuple (rs'.map jE)),Ca,C9):=(fK (op:=eV) (d:=.list (rs'.map jE)) (e1:=Ca) rfl rfl).trans (by rw [bZ])
 let ht:jl:=⟨ps',rk,lv,rs'⟩
 have z5:=qR (ds:=[.tuple (ps'.map bD),.tuple (rk.map bh),.tuple (lv.map jN),.tuple (rs'.map jE)]) (dh z1 (dh z2 (dh z3 (dh z4 (show aG Ca C9=some ([],Ca,C9) from rfl))))) rfl (by show 4≤1000000; omega)
 let aaD:=mH b zs ps own rk lv (cU rs) x7 x8 w9 x10 x11 x12 y13 y14 y15 y16 y17 (some (.ow (.list (rs'.map jE))))
 have z6:=qR (ds:=[.list (ps.map bD),bG ht]) (dh (show aH 2 aaD C9=some (.im (.list (ps.map bD)),Ca,C9) from rfl) (dh z5 (show aG Ca C9=some ([],Ca,C9) from rfl))) rfl (by show 2≤1000000; omega)
 have body:xZ Zj C=some (.rt (.im (.tuple [.list (ps.map bD),bG ht])),Ca,C9):=by
  refine (seq_eq s1).trans ((seq_eq s2).trans ((seq_eq s3).trans ((seq_eq s4).trans ((seq_eq s5).trans ((seq_eq s6).trans ?_)))))
  exact yu z6
 have hC:C9.length=C.length:=by omega
 have hrk:rk.length=ns2.length:=by rw [←k4,List.length_map]
 have hlv:lv.length=ns5.length:=by rw [←k7,List.length_map]
 refine ⟨ps,ht,C9,?_,hP,p1,⟨q2,p8,?_,?_,?_,r4,?_,r7,?_,?_,?_⟩,hB9.mono (by omega),hC⟩
 ·exact yw (k:=2) (n:=19) (en:=Zj) rfl rfl body rfl hC
 ·show rk.length≤20
  omega
 ·show lv.length≤16
  omega
 ·show rs'.length≤10
  rw [q1.length_eq]; exact k9
 ·show (rk.map (·.1)).Pairwise _
  rw [k4]; exact u3
 ·show (lv.map (·.1)).Pairwise _
  rw [k7]; exact u6
 ·exact fun r hr=>r9 r (q1.mem_iff.mp hr)
 ·exact (q1.map Le).nodup_iff.mpr n9
end pN
set_option maxHeartbeats 4000000
namespace pN
open PySem L2
theorem jd {f:FE} {env e1:En} {C C1:Ce} {b:Bool} (h:f env C=some (.im (.bool b),e1,C1)):b7 f env C=some (b,C1):=by
 unfold b7
 simp only [h]
theorem and_eq {f g:FT} {env:En} {C C1 C2:Ce} {a b:Bool} (h:f env C=some (a,C1)) (h2:a=true→g env C1=some (b,C2)) (h3:a=false→C1=C2):cN f g env C=some (a&&b,C2):=by
 unfold cN
 rw [h]
 cases a with
 | true=>exact h2 rfl
 | false=>rw [h3 rfl]; rfl
theorem zV:∀zs:List Str,(zs.map PyData.str).all iw=true
 | []=>rfl
 | z::zs=>by
  rw [List.map_cons,List.all_cons,zV zs]
  rfl
theorem JH (z:Str) (zs:List Str):GR (.str z) (.list (zs.map .str))=some (.im (.bool (decide (z∈zs)))):=by
 have:inB (.str z) (.list (zs.map .str))=some (inD (.str z) (zs.map .str)):=if_pos (by rw [zV]; rfl)
 unfold GR
 rw [this,Eo]
 rfl
theorem JK (x z:Str):nH (.str x) (.str z)=some (.im (.bool (decide (x=z)))):=by
 have:(x==z)=decide (x=z):=by rw [Bool.eq_iff_iff]; simp
 show some (Vl.im (.bool (x==z)))=_
 rw [this]
theorem JL (x z:Str):qm (.str x) (.str z)=some (.im (.bool (!decide (x=z)))):=by
 have:(x==z)=decide (x=z):=by rw [Bool.eq_iff_iff]; simp
 show some (Vl.im (.bool (!(x==z))))=_
 rw [this]
def yx (ps:List (Str×Str)) (q:List (Str×Str)):List (Str×PyData):=q.map fun p=>(p.1,.list ((up ps p.1).map .str))
theorem JM {ps:List (Str×Str)} (nd:(ps.map (·.1)).Nodup) {z w:Str} {g:Str×Str→PyData} (h:(z,w)∈ps):((ps.map fun p=>(p.1,g p)).find? fun p=>decide (p.1=z)).map (·.2)=some (g (z,w)):=by
 rw [xT]
 have e:=(cM nd).mpr h
 unfold eN at e
 cases hf:ps.find? (fun p=>decide (p.1=z)) with
 | none=>rw [hf] at e; cases e
 | some x=>
  rw [hf] at e
  have h1:x.1=z:=by simpa using List.find?_some hf
  have h2:x.2=w:=Option.some.inj e
  rw [show x=(z,w) by rw [←h1,←h2]]
  rfl
theorem Fe {ps:List (Str×Str)} {z:Str} {g:Str×Str→PyData} (h:z∉ps.map (·.1)):((ps.map fun p=>(p.1,g p)).find? fun p=>decide (p.1=z)).map (·.2)=none:=by
 rw [xT]
 rw [List.find?_eq_none.mpr fun x hx e=>h (List.mem_map.mpr ⟨x,hx,of_decide_eq_true e⟩)]
 rfl
theorem get_eq {fd fk:FB} {fx:FE} {env e1 e2 e3:En} {C C1 C2 C3:Ce} {kvs:List (PyData×PyData)} {dk x:PyData} {r:Vl} {o:Option PyData} (h1:fd env C=some (.dict kvs,e1,C1)) (h2:fk e1 C1=some (dk,e2,C2)) (h3:fx e2 C2=some (r,e3,C3)) (h4:lH kvs dk=some o) (h5:still r=.im x) (he:e3=env):Bm fd fk fx env C=some (.im (o.getD x),env,C3):=by
 subst he
 unfold Bm
 simp only [h1,h2,h3,h4]
 cases o with
 | none=>simp only [h5,bZ]; rfl
 | some d=>simp only [bZ]; rfl
theorem SX {C:Ce} {zs:List Str} {ps:List (Str×Str)} (hN:Names zs) (hP:dg zs ps) (h8:ps.length≤8):
  qg [.im (.list (ps.map bD))] C=some (.ow (.dict (iu (yx ps ps))),C):=by
 have nd:=gq hN hP
 obtain ⟨env',C',e,v2,v3,he,hC⟩:=cZ (g:=qw 2 (bO (gh 2) (bO (gh 3) dH))) (body:=yc) (its:=ps.map bD) (env:=[some (.im (.list (ps.map bD))),some (.ow (.dict [])),none,none]) (C:=C)
  (fun i env C1=>∃(v2 v3:Option Vl),env=[some (.im (.list (ps.map bD))),some (.ow (.dict (iu (yx ps (ps.take i))))),v2,v3]∧C1=C)
  ⟨none,none,rfl,rfl⟩ (fun i d env C1 hd hI=>by
   obtain ⟨v2,v3,rfl,rfl⟩:=hI
   rw [List.getElem?_map] at hd
   cases hx:ps[i]? with
   | none=>rw [hx] at hd; cases hd
   | some x=>
    rw [hx] at hd
    cases hd
    have hi:=(List.getElem?_eq_some_iff.mp hx).1
    let en:En:=[some (.im (.list (ps.map bD))),some (.ow (.dict (iu (yx ps (ps.take i))))),some (.im (.str x.1)),some (.im (.str x.2))]
    have lk:eN ps x.1=some x.2:=(cM nd).mpr (List.mem_of_getElem? hx)
    have hu:=Jx hN hP lk
    have ndt:((ps.take i).map (·.1)).Nodup:=by
     rw [List.map_take]
     exact nd.sublist (List.take_sublist _ _)
    have hg:∃o,lH (iu (yx ps (ps.take i))) (.str x.2)=some o∧o.getD (.list [])=.list ((up ps x.2).map .str):=by
     rw [uz]
     rcases (hP i x hx).2 with h2 | ⟨j,hj,h2⟩
     ·refine ⟨none,?_,?_⟩
      ·congr 1
       refine Fe fun hm=>?_
       have hm':x.2∈ps.map (·.1):=by
        rw [List.map_take] at hm
        exact List.mem_of_mem_take hm
       have:=xR hN hP hm'
       rw [h2,sO] at this
       cases this
      ·rw [h2,Jy (qT hN hP)]
       rfl
     ·have hjl:j < ps.length:=by omega
      have g:=hP j ps[j] (List.getElem?_eq_getElem hjl)
      have e2:ps[j].1=x.2:=by
       have:=g.1
       rw [h2] at this
       exact (Option.some.inj this).symm
      have hm:(x.2,ps[j].2)∈ps.take i:=by
       rw [←e2]
       have:(ps.take i)[j]?=some ps[j]:=by rw [List.getElem?_take,if_pos hj,List.getElem?_eq_getElem hjl]
       exact List.mem_of_getElem? this
      exact ⟨_,congrArg some (JM ndt hm),rfl⟩
    obtain ⟨o,ho1,ho2⟩:=hg
    have t1:Bm (au 1) (au 3) (bH aG) en C1=some (.im (o.getD (.list [])),en,C1):=get_eq (e1:=en) (e2:=en) (e3:=en) (kvs:=iu (yx ps (ps.take i))) (dk:=.str x.2) (r:=.ow (.list [])) rfl rfl rfl ho1 rfl rfl
    rw [ho2] at t1
    have hul:=Pk ps x.2
    have t2:aC aQ (ao (bH (aa (aH 2) aG))) (ao (Bm (au 1) (au 3) (bH aG))) en C1=some (.ow (.list ((up ps x.1).map .str)),en,C1):=by
     rw [hu]
     refine aO (x:=.list [.str x.1]) (e1:=en) (aF (r:=.ow (.list [.str x.1])) rfl rfl) (aF t1 rfl) ?_
     simp only [aQ]
     exact if_pos (by rw [List.length_map]; show 1 + (up ps x.2).length≤1000000; omega)
    have t3:=Pj (i:=1) (fk:=au 2) (dk:=.str x.1) (e2:=en) (kvs:=iu (yx ps (ps.take i))) t2 rfl rfl rfl rfl (Pn (l:=yx ps (ps.take i)) (z:=x.1) (d:=.list ((up ps x.1).map .str)) (by
     unfold yx
     rw [List.map_map]
     show x.1∉(ps.take i).map (·.1)
     intro hm
     obtain ⟨y,hy,he⟩:=List.mem_map.mp hm
     obtain ⟨j,hj,hjy⟩:=List.getElem_of_mem hy
     rw [List.length_take] at hj
     rw [List.getElem_take] at hjy
     have h1:(ps.map (·.1))[j]'(by rw [List.length_map]; omega)=(ps.map (·.1))[i]'(by rw [List.length_map]; omega):=by
      rw [List.getElem_map,List.getElem_map,hjy,he,←(List.getElem?_eq_some_iff.mp hx).2]
     exact List.pairwise_iff_getElem.mp nd j i _ _ (by omega) h1)) (by unfold iu yx; rw [List.length_map,List.length_map,List.length_take]; omega)
    refine ⟨en,.nx,_,C1,rfl,t3,.inl rfl,some (.im (.str x.1)),some (.im (.str x.2)),?_,rfl⟩
    have ht:ps.take (i + 1)=ps.take i++[x]:=by rw [List.take_add_one,hx]; rfl
    rw [ht]
    unfold yx
    rw [List.map_append]
    rfl)
 rw [List.length_map,List.take_length] at he
 subst he
 subst hC
 let e0:En:=[some (.im (.list (ps.map bD))),none,none,none]
 let e1:En:=[some (.im (.list (ps.map bD))),some (.ow (.dict [])),none,none]
 let e2:En:=[some (.im (.list (ps.map bD))),some (.ow (.dict (iu (yx ps ps)))),v2,v3]
 have b:BL e0 C'=some (.rt (.ow (.dict (iu (yx ps ps)))),e2,C'):=(seq_eq (e1:=e1) (C1:=C') rfl).trans ((seq_eq ((kZ (Pa (f:=aH 0) (r:=.im (.list (ps.map bD))) (d:=.list (ps.map bD)) (e1:=e1) rfl rfl rfl)).trans e)).trans rfl)
 exact yw (k:=1) (n:=4) (en:=e0) rfl rfl b rfl rfl
def gf (q:List (Str×Str)):List (Str×PyData):=q.map fun p=>(p.1,.str p.2)
theorem Ff {C:Ce}:∀(l q:List (Str×Str)),((q++l).map (·.1)).Nodup→(q++l).length≤8→uM (.many 2) gj gW gY [] (l.map bD) (iu (gf q)) C=some (iu (gf (q++l)),C)
 | [],q,_,_=>by rw [List.append_nil]; rfl
 | x::l,q,nd,h8=>by
  have ih:=Ff (C:=C) l (q++[x]) (by rw [List.append_assoc]; exact nd) (by rw [List.append_assoc]; exact h8)
  have hx:x.1∉(gf q).map (·.1):=by
   unfold gf
   rw [List.map_map]
   show x.1∉q.map (·.1)
   rw [List.map_append,List.nodup_append] at nd
   exact fun hm=>nd.2.2 _ hm _ List.mem_cons_self rfl
  have hl:(iu (gf q)).length < jA:=by
   unfold iu gf
   rw [List.length_append] at h8
   rw [List.length_map,List.length_map]
   show _ < 1000000
   omega
  rw [List.map_cons]
  unfold uM
  rw [show Ue (.many 2) (bD x)=some [.str x.1,.str x.2] from rfl]
  show (if (iu (gf q)).length < jA then uM (.many 2) gj gW gY [] (l.map bD) (nP fP (.inr x.1) (.str x.1) (.str x.2) (iu (gf q))) C else none)=_
  rw [if_pos hl,Eu hx]
  have e:gf q++[(x.1,.str x.2)]=gf (q++[x]):=by unfold gf; rw [List.map_append]; rfl
  rw [e,ih,List.append_assoc]
  rfl
theorem Fg:∀q,G9 (iu (gf q))=true
 | []=>rfl
 | x::q=>by
  show (true&&G9 (iu (gf q)))=true
  rw [Fg q]
  rfl
theorem yz (q:List (Str×Str)) (z:Str):lH (iu (gf q)) (.str z)=some ((eN q z).map .str):=by
 rw [uz]
 unfold gf eN
 rw [xT,Option.map_map]
 rfl
theorem S7 {C:Ce} {hs:Option Vl} {q ps:List (Str×Str)} (hl:∀z,eN q z=eN ps z):∀{z:Str} {os:List Str},Over (eN ps) z os→∀(n:Nat) (acc:List Str),os.length < n→acc.length + os.length < 1000→
  ∃z',mj gU jO n [hs,some (.im (.str z)),some (.ow (.dict (iu (gf q)))),some (.ow (.list (acc.map .str)))] C=some (.nx,[hs,some (.im (.str z')),some (.ow (.dict (iu (gf q)))),some (.ow (.list ((acc++os).map .str)))],C):=by
 intro z os ho
 induction ho with
 | @stop z h=>
  intro n acc hn ha
  cases n with
  | zero=>exact absurd hn (Nat.not_lt_zero _)
  | succ n=>
   refine ⟨z,?_⟩
   have t:gU [hs,some (.im (.str z)),some (.ow (.dict (iu (gf q)))),some (.ow (.list (acc.map .str)))] C=some (false,C):=by
    refine jd (aO (x:=.str z) (y:=.dict (iu (gf q))) rfl rfl ?_)
    show ((lH (iu (gf q)) (.str z)).map (·.isSome)).map (fun b=>Vl.im (.bool b))=_
    rw [yz,hl,h]
    rfl
   unfold mj
   rw [t,List.append_nil]
 | @step z y r h _ ih=>
  intro n acc hn ha
  cases n with
  | zero=>exact absurd hn (Nat.not_lt_zero _)
  | succ n=>
   rw [List.length_cons] at hn ha
   obtain ⟨z',e⟩:=ih n (acc++[z]) (by omega) (by rw [List.length_append]; show acc.length + 1 + _ < _; omega)
   refine ⟨z',?_⟩
   have t:gU [hs,some (.im (.str z)),some (.ow (.dict (iu (gf q)))),some (.ow (.list (acc.map .str)))] C=some (true,C):=by
    refine jd (aO (x:=.str z) (y:=.dict (iu (gf q))) rfl rfl ?_)
    show ((lH (iu (gf q)) (.str z)).map (·.isSome)).map (fun b=>Vl.im (.bool b))=_
    rw [yz,hl,h]
    rfl
   let e1:En:=[hs,some (.im (.str z)),some (.ow (.dict (iu (gf q)))),some (.ow (.list ((acc++[z]).map .str)))]
   have s1:fY 3 (aH 1) [hs,some (.im (.str z)),some (.ow (.dict (iu (gf q)))),some (.ow (.list (acc.map .str)))] C=some (.nx,e1,C):=by
    refine (uw (i:=3) (r:=.im (.str z)) (d:=.str z) (ds:=acc.map .str) rfl rfl rfl rfl (by rw [List.length_map]; omega)).trans ?_
    show some (Fl.nx,[hs,some (.im (.str z)),some (.ow (.dict (iu (gf q)))),some (.ow (.list (acc.map .str++[.str z])))],C)=_
    rw [show acc.map PyData.str++[.str z]=(acc++[z]).map .str by rw [List.map_append]; rfl]
   have s2:=fZ (i:=1) (aO (op:=aR) (fa:=au 2) (fb:=au 1) (env:=e1) (C:=C) (x:=.dict (iu (gf q))) (y:=.str z) (e1:=e1) (e2:=e1) (r:=.im (.str y)) rfl rfl (by
    unfold aR nJ
    simp only [yz,hl,h,Option.map_some]))
   have b:jO [hs,some (.im (.str z)),some (.ow (.dict (iu (gf q)))),some (.ow (.list (acc.map .str)))] C=some (.nx,[hs,some (.im (.str y)),some (.ow (.dict (iu (gf q)))),some (.ow (.list ((acc++[z]).map .str)))],C):=(seq_eq s1).trans s2
   unfold mj
   rw [t]
   simp only
   rw [b]
   simp only
   rw [e,List.append_assoc]
   rfl
theorem ji {ds:List PyData} {i:Nat} {d:PyData} (h:ds[i]?=some d):aR (.tuple ds) (.int i)=some (.im d):=by
 simp only [aR,nJ,Ae h,Option.map_some]
theorem yO {C:Ce} {zs:List Str} {ps:List (Str×Str)} {ht:jl} (hN:Names zs) (hP:dg zs ps) (hG:mZ zs ps ht) (z:Str):
  gC [.im (bG ht),.im (.str z)] C=some (.ow (.list ((up ps z).map .str)),C):=by
 have nd:=gq hN hP
 have nd':(ht.ps.map (·.1)).Nodup:=(hG.parts.map (·.1)).nodup_iff.mpr nd
 let e0:En:=[some (.im (bG ht)),some (.im (.str z)),none,none]
 let e1:En:=[some (.im (bG ht)),some (.im (.str z)),some (.ow (.dict (iu (gf ht.ps)))),none]
 have hL:ht.ps.length≤8:=by rw [hG.parts.length_eq]; exact hG.p8
 have t0:Qo (ao (aC aR (au 0) (ao (az (.int 0))))) e0 C=some (ht.ps.map bD,e0,C):=by
  refine O9 (d:=.tuple (ht.ps.map bD)) (aF ((aO (op:=aR) (x:=bG ht) (y:=.int 0) (e1:=e0) (e2:=e0) rfl (aF rfl rfl) (ji (i:=0) rfl)).trans (by rw [bZ])) rfl) rfl
 have s1:bQ 2 (W0 (Qo (ao (aC aR (au 0) (ao (az (.int 0)))))) (.many 2) gj gW gY []) e0 C=some (.nx,e1,C):=by
  refine fZ (i:=2) (e1:=e0) ?_
  unfold W0
  rw [t0]
  simp only
  have:=Ff (C:=C) ht.ps [] nd' hL
  rw [show frB [] e0=[] from rfl]
  rw [show iu (gf [])=[] from rfl] at this
  rw [this]
  simp only [List.nil_append,Fg,if_true]
 have hul:=Pk ps z
 have h8:=hG.p8
 obtain ⟨z',e⟩:=S7 (C:=C) (hs:=some (.im (bG ht))) (Hq hG.parts nd) (Bv hN hP z) Ud [] (by show _ < 100000; omega) (by show 0 + _ < 1000; omega)
 let e2:En:=[some (.im (bG ht)),some (.im (.str z)),some (.ow (.dict (iu (gf ht.ps)))),some (.ow (.list []))]
 let e3:En:=[some (.im (bG ht)),some (.im (.str z')),some (.ow (.dict (iu (gf ht.ps)))),some (.ow (.list ((up ps z).map .str)))]
 have b:ou e0 C=some (.rt (.ow (.list ((up ps z).map .str))),e3,C):=(seq_eq s1).trans ((seq_eq (e1:=e2) (C1:=C) rfl).trans ((seq_eq (e1:=e3) (C1:=C) e).trans rfl))
 exact yw (k:=2) (n:=4) (en:=e0) rfl rfl b rfl rfl
theorem Cd (l:List mY):intsOf (l.map fun r=>PyData.int r.2.2.1)=some (l.map (·.2.2.1)):=by
 have:=oK (l.map (·.2.2.1))
 rw [List.map_map] at this
 exact this
theorem qi:∀l:List Int,dX (l.map PyData.int)=true
 | []=>rfl
 | x::l=>by
  show (true&&dX (l.map PyData.int))=true
  rw [qi l]
  rfl
theorem q9 {C:Ce} {zs:List Str} {ps:List (Str×Str)} {ht:jl} (hN:Names zs) (hP:dg zs ps) (hG:mZ zs ps ht) (who z:Str) (day:Int):
  fD [.im (bG ht),.im (.str who),.im (.str z),.im (.int day)] C=some (.im (.int (gB ht.bB who (up ps z) day)),C):=by
 let e0:En:=[some (.im (bG ht)),some (.im (.str who)),some (.im (.str z)),some (.im (.int day)),none,none]
 let e1:En:=[some (.im (bG ht)),some (.im (.str who)),some (.im (.str z)),some (.im (.int day)),some (.ow (.list ((up ps z).map .str))),none]
 have s1:bQ 4 (aU gC (aa (aH 0) (aa (aH 2) aG))) e0 C=some (.nx,e1,C):=fZ (i:=4) (cR (xs:=[.im (bG ht),.im (.str z)]) (e1:=e0) rfl (yO hN hP hG z))
 have t0:Qo (ao (aC aR (au 0) (ao (az (.int 1))))) e1 C=some (ht.bB.map bh,e1,C):=by
  refine O9 (d:=.tuple (ht.bB.map bh)) (aF ((aO (op:=aR) (x:=bG ht) (y:=.int 1) (e1:=e1) (e2:=e1) rfl (aF rfl rfl) (ji (i:=1) rfl)).trans (by rw [bZ])) rfl) rfl
 let hl:=(ht.bB.filter (uO who (up ps z) day))
 have t1:gm (.many 6) jU oA [some (.im (.str who)),some (.im (.list ((up ps z).map .str))),some (.im (.int day))] (ht.bB.map bh) C=some (hl.map fun r=>.int r.2.2.1,C):=by
  refine jm bh (uO who (up ps z) day) (fun r=>.int r.2.2.1) fun r _=>?_
  refine ⟨[.int r.1,.str r.2.1,.int r.2.2.1,.str r.2.2.2.1,.int r.2.2.2.2.1,.int r.2.2.2.2.2],rfl,?_,fun _=>⟨.im (.int r.2.2.1),_,rfl,rfl⟩⟩
  let fs:En:=[some (.im (.int r.1)),some (.im (.str r.2.1)),some (.im (.int r.2.2.1)),some (.im (.str r.2.2.2.1)),some (.im (.int r.2.2.2.2.1)),some (.im (.int r.2.2.2.2.2)),some (.im (.str who)),some (.im (.list ((up ps z).map .str))),some (.im (.int day))]
  show jU fs C=_
  refine and_eq (jd (aO (x:=.str r.2.1) (y:=.str who) (e1:=fs) (e2:=fs) rfl rfl (JK _ _))) (fun _=>and_eq (jd (aO (x:=.str r.2.2.2.1) (y:=.list ((up ps z).map .str)) (e1:=fs) (e2:=fs) rfl rfl (JH _ _))) (fun _=>jd (e1:=fs) ?_) (fun _=>rfl)) (fun _=>rfl)
  unfold gO
  rw [show au 4 fs C=some (.int r.2.2.2.2.1,fs,C) from rfl]
  simp only
  rw [show au 8 fs C=some (.int day,fs,C) from rfl]
  simp only [u5]
  by_cases h1:r.2.2.2.2.1≤day
  ·rw [decide_eq_true h1]
   simp only
   rw [show au 5 fs C=some (.int r.2.2.2.2.2,fs,C) from rfl]
   simp only [Bool.true_and]
  ·rw [decide_eq_false h1]
   simp only [Bool.false_and]
 have hm:hl.map (fun r=>PyData.int r.2.2.1)=(hl.map (·.2.2.1)).map .int:=by rw [List.map_map]; rfl
 have hlen:hl.length≤20:=Nat.le_trans (List.length_filter_le _ _) hG.r20
 let e2:En:=[some (.im (bG ht)),some (.im (.str who)),some (.im (.str z)),some (.im (.int day)),some (.ow (.list ((up ps z).map .str))),some (.ow (.list (hl.map fun r=>.int r.2.2.1)))]
 have s2:bQ 5 (mq (Qo (ao (aC aR (au 0) (ao (az (.int 1)))))) (.many 6) jU oA [1,4,3]) e1 C=some (.nx,e2,C):=fZ (i:=5) (pL t0 t1 (by rw [List.length_map]; omega) (by rw [hm]; exact qi _))
 have hpos:∀x∈hl.map (·.2.2.1),0≤x:=fun x hx=>by
  obtain ⟨r,hr,rfl⟩:=List.mem_map.mp hx
  have:=(hG.bB r (List.mem_filter.mp hr).1).rank
  omega
 have t3:Ef (au 5) (ao (az (.int 0))) e2 C=some (.im (.int (gB ht.bB who (up ps z) day)),e2,C):=by
  unfold Ef
  rw [show au 5 e2 C=some (.list (hl.map fun r=>.int r.2.2.1),e2,C) from rfl]
  simp only
  rw [show ao (az (.int 0)) e2 C=some (.int 0,e2,C) from rfl]
  simp only [Cd]
  rw [K7 hpos]
  rfl
 exact yw (k:=4) (n:=6) (en:=e0) rfl rfl ((seq_eq s1).trans ((seq_eq s2).trans (yu t3))) rfl rfl
end pN
set_option maxHeartbeats 4000000
namespace pN
open PySem L2
theorem Wy {C:Ce} {ns:List Int} {k:Int} (k0:0≤k) (k9:k≤9):∃x y:Int,qX [.sc ns,.im (.int k)] C=some (.ow (.list [.int x,.int y,.int 0]),C)∧0≤x∧0≤y∧y≤3000000000:=by
 have hc:∃c:Int,(bw (bQ 2 (az (.int 0))) (dI (b7 (aC u0 (au 1) (ao (cY 0)))) (bQ 2 (ir 0 (au 1))) cD)) [some (.sc ns),some (.im (.int k)),none] C=some (.nx,[some (.sc ns),some (.im (.int k)),some (.im (.int c))],C):=by
  let e1:En:=[some (.sc ns),some (.im (.int k)),some (.im (.int 0))]
  have t:b7 (aC u0 (au 1) (ao (cY 0))) e1 C=some (decide (k < ns.length),C):=jd (aO (x:=.int k) (y:=.int ns.length) (e1:=e1) (e2:=e1) rfl (aF rfl rfl) rfl)
  by_cases h:k < ns.length
  ·obtain ⟨c,hc,_⟩:=Pb (xs:=ns) k0 h
   refine ⟨c,(seq_eq (e1:=e1) (C1:=C) rfl).trans ?_⟩
   unfold dI
   rw [t,decide_eq_true h]
   have:ir 0 (au 1) e1 C=some (.im (.int c),e1,C):=by
    unfold ir
    rw [show e1[0]?=some (some (.sc ns)) from rfl]
    simp only
    rw [show au 1 e1 C=some (.int k,e1,C) from rfl]
    simp only [hc]
   exact fZ (i:=2) this
  ·refine ⟨0,(seq_eq (e1:=e1) (C1:=C) rfl).trans ?_⟩
   unfold dI
   rw [t,decide_eq_false h]
   rfl
 obtain ⟨c,hc⟩:=hc
 let en:En:=[some (.sc ns),some (.im (.int k)),some (.im (.int c))]
 have a0:0≤(if c < 0 then -c else c):=by split <;> omega
 generalize hA:(if c < 0 then -c else c)=a at a0
 have t1:bC sy (aP (au 2) bF) en C=some (.im (.int a),en,C):=by
  refine (fK (op:=sy) (d:=.int c) (e1:=en) rfl (by show some (Vl.im (.int (if c < 0 then -c else c)))=_; rw [hA])).trans (by rw [bZ])
 have t2:aC oO (ao (az (.int 10))) (ao (az (.int 18))) en C=some (.im (.int (10 ^ 18)),en,C):=aO (x:=.int 10) (y:=.int 18) (e1:=en) (e2:=en) (aF rfl rfl) (aF rfl rfl) (pow_eq (by omega) (by omega) (by decide))
 have t3:bC zy (aP (ao (aC KN (ao (bC sy (aP (au 2) bF))) (ao (aC oO (ao (az (.int 10))) (ao (az (.int 18))))))) bF) en C=some (.im (.int (if decide ((10:Int) ^ 18≤a) then 1 else 0)),en,C):=
  (fK (op:=zy) (d:=.bool (decide ((10:Int) ^ 18≤a))) (e1:=en) (aF (aO (op:=KN) (aF t1 rfl) (aF t2 rfl) rfl) rfl) rfl).trans (by rw [bZ])
 have j01:(if decide ((10:Int) ^ 18≤a) then (1:Int) else 0)=1∨(if decide ((10:Int) ^ 18≤a) then (1:Int) else 0)=0:=by split; exact .inl rfl; exact .inr rfl
 generalize (if decide ((10:Int) ^ 18≤a) then (1:Int) else 0)=j at t3 j01
 have t4:=aO (op:=iQ) (aF t1 rfl) (aF t3 rfl) (mul_eq (i:=a) (j:=j) (by right; omega))
 rw [bZ] at t4
 have t5:aC jB (au 2) (ao (az (.int 2147483629))) en C=some (.im (.int (c % 2147483629)),en,C):=(aO (x:=.int c) (y:=.int 2147483629) (e1:=en) (e2:=en) rfl (aF rfl rfl) (mod_eq (by omega)))
 have t6:aC iQ (ao (az (.int 7919))) (au 1) en C=some (.im (.int (7919 * k)),en,C):=(aO (x:=.int 7919) (y:=.int k) (e1:=en) (e2:=en) (aF rfl rfl) rfl (mul_eq (by left; omega)))
 have t7:aC aQ (ao (aC aQ (ao (aC jB (au 2) (ao (az (.int 2147483629))))) (ao (aC iQ (ao (az (.int 7919))) (au 1))))) (ao (az (.int 11))) en C=some (.im (.int (c % 2147483629 + 7919 * k + 11)),en,C):=
  aO (op:=aQ) (x:=.int (c % 2147483629 + 7919 * k)) (y:=.int 11) (e1:=en) (e2:=en) (aF (aO (op:=aQ) (x:=.int (c % 2147483629)) (y:=.int (7919 * k)) (e1:=en) (e2:=en) (aF t5 rfl) (aF t6 rfl) rfl) rfl) (aF rfl rfl) rfl
 have t8:=Bu (ds:=[.int (a * j),.int (c % 2147483629 + 7919 * k + 11),.int 0]) (dh t4 (dh t7 (dh (show az (.int 0) en C=some (.im (.int 0),en,C) from rfl) (show aG en C=some ([],en,C) from rfl)))) rfl (by show 3≤1000000; omega)
 have m0:0≤c % 2147483629:=Int.emod_nonneg _ (by omega)
 have m1:c % 2147483629 < 2147483629:=Int.emod_lt_of_pos _ (by omega)
 refine ⟨a * j,c % 2147483629 + 7919 * k + 11,?_,Int.mul_nonneg a0 (by omega),by omega,by omega⟩
 refine yw (k:=2) (n:=3) (en:=[some (.sc ns),some (.im (.int k)),none]) (e1:=en) rfl rfl ?_ rfl rfl
 have hb:Hr [some (.sc ns),some (.im (.int k)),none] C=dm (bH (aa (aC iQ (ao (bC sy (aP (au 2) bF))) (ao (bC zy (aP (ao (aC KN (ao (bC sy (aP (au 2) bF))) (ao (aC oO (ao (az (.int 10))) (ao (az (.int 18))))))) bF)))) (aa (aC aQ (ao (aC aQ (ao (aC jB (au 2) (ao (az (.int 2147483629))))) (ao (aC iQ (ao (az (.int 7919))) (au 1))))) (ao (az (.int 11)))) (aa (az (.int 0)) aG)))) en C:=by
  let e1:En:=[some (.sc ns),some (.im (.int k)),some (.im (.int 0))]
  have q:=(seq_eq (g:=dI (b7 (aC u0 (au 1) (ao (cY 0)))) (bQ 2 (ir 0 (au 1))) cD) (show bQ 2 (az (.int 0)) [some (.sc ns),some (.im (.int k)),none] C=some (.nx,e1,C) from rfl)).symm.trans hc
  exact (seq_eq (e1:=e1) (C1:=C) rfl).trans (seq_eq q)
 exact hb.trans (yu t8)
theorem S8 {C:Ce} (x:Int):jc 3 [.im (.int x),.im (.int x)] C=some (.im (.bool true),C):=by
 let en:En:=[some (.im (.int x)),some (.im (.int x))]
 have t:aC nH (au 0) (au 1) en C=some (.im (.bool true),en,C):=(aO (x:=.int x) (y:=.int x) (r:=.im (.bool true)) (e1:=en) (e2:=en) rfl rfl (by show some (Vl.im (.bool (x==x)))=_; rw [beq_self_eq_true]))
 have b:BK (jc 2) en C=some (.rt (.im (.bool true)),en,C):=by
  show dm (dj (fU "int" (au 0)) (dj (eF (fU "bool" (au 0))) (aC nH (au 0) (au 1)))) en C=_
  exact yu t
 exact yw (k:=2) (n:=2) (en:=en) rfl rfl b rfl (Eq.refl C.length)
theorem yC {α β:Type} (f:α→β) (l:List α) (lo hi:Option Int):jD (l.map f) lo hi=(jD l lo hi).map f:=by
 unfold jD
 rw [List.length_map,List.map_take,List.map_drop]
theorem yD {α:Type} (l:List α) (k:Nat):(jD l none (some (k:Int))).length≤k:=by
 unfold jD
 rw [List.length_take,HT.QK]
 omega
theorem Lg {α:Type} (l:List α):(jD l (some (-1)) none).length≤1:=by
 unfold jD
 rw [List.length_take,List.length_drop]
 have:HT.gG l.length 0 (some (-1))=((-1:Int) + l.length).toNat:=by
  show (if (-1:Int) < 0 then ((-1:Int) + (l.length:Int)).toNat else min (-1:Int).toNat l.length)=_
  exact if_pos (by decide)
 rw [this]
 have:HT.gG l.length l.length none=l.length:=rfl
 rw [this]
 omega
theorem S9 {xs ys:List PyData} (h:xs.length + ys.length≤1000000):aQ (.tuple xs) (.tuple ys)=some (.im (.tuple (xs++ys))):=by
 unfold aQ
 cases xs with
 | nil=>rfl
 | cons x xs=>exact if_pos h
theorem tG {xs ys:List PyData} (h:xs.length + ys.length≤1000000):aQ (.list xs) (.list ys)=some (.ow (.list (xs++ys))):=by
 unfold aQ
 exact if_pos h
theorem tH {en:En} {C:Ce} {ht:jl} {s:Nat} (h:en[s]?=some (some (.im (bG ht)))):ao (aC aR (au s) (ao (az (.int 1)))) en C=some (.tuple (ht.bB.map bh),en,C):=
 aF ((aO (op:=aR) (x:=bG ht) (y:=.int 1) (e1:=en) (e2:=en) (bv h rfl) (aF rfl rfl) (ji (i:=1) rfl)).trans (by rw [bZ])) rfl
theorem Tc {C:Ce} {b:Nat} {n:Int} {ht:jl} (h:Bx C b n) (hn:n≤700000) (h20:ht.bB.length≤20):
  ∃(ds:List Int) (C':Ce),oG [.ce b,.im (bG ht)] C=some (.ow (.list (ds.map .int)),C')∧Bx C' b (n + 8)∧C'.length=C.length:=by
 let e0:En:=[some (.ce b),some (.im (bG ht)),none,none]
 obtain ⟨d1,C1,q1,_,_,mG,l1⟩:=BX (en:=e0) h (by omega) rfl
 obtain ⟨d2,C2,q2,_,_,hB2,l2⟩:=BX (en:=e0) mG (by omega) rfl
 have s1:=fZ (i:=2) (Bu (ds:=[.int 0,.int d1,.int d2]) (dh (show az (.int 0) e0 C=some (.im (.int 0),e0,C) from rfl) (dh q1 (dh q2 (show aG e0 C2=some ([],e0,C2) from rfl)))) rfl (by show 3≤1000000; omega))
 let e1:En:=[some (.ce b),some (.im (bG ht)),some (.ow (.list [.int 0,.int d1,.int d2])),none]
 let its:=jD ht.bB none (some 3)++jD ht.bB (some (-1)) none
 have hits:its.length≤4:=by
  have a1:=yD ht.bB 3
  have a2:=Lg ht.bB
  have a3:(jD ht.bB none (some 3)).length≤3:=a1
  show (jD ht.bB none (some 3)++jD ht.bB (some (-1)) none).length≤4
  rw [List.length_append]
  omega
 have x1:lN (ao (aC aR (au 1) (ao (az (.int 1))))) lM (lG (ao (az (.int 3)))) e1 C2=some (.im (.tuple ((jD ht.bB none (some 3)).map bh)),e1,C2):=
  (Jr (tH (s:=1) rfl) (show lM e1 C2=some (none,C2) from rfl) (show lG (ao (az (.int 3))) e1 C2=some (some 3,C2) from rfl) (show Wk none (some 3) (.tuple (ht.bB.map bh))=_ from (by show some (Vl.im (.tuple (jD (ht.bB.map bh) none (some 3))))=_; rw [yC]))).trans (by rw [bZ])
 have x2:lN (ao (aC aR (au 1) (ao (az (.int 1))))) (lG (ao (iH (ao (az (.int 1)))))) lM e1 C2=some (.im (.tuple ((jD ht.bB (some (-1)) none).map bh)),e1,C2):=
  (Jr (tH (s:=1) rfl) (show lG (ao (iH (ao (az (.int 1))))) e1 C2=some (some (-1),C2) from rfl) (show lM e1 C2=some (none,C2) from rfl) (show Wk (some (-1)) none (.tuple (ht.bB.map bh))=_ from (by show some (Vl.im (.tuple (jD (ht.bB.map bh) (some (-1)) none)))=_; rw [yC]))).trans (by rw [bZ])
 have hlen:((jD ht.bB none (some 3)).map bh).length + ((jD ht.bB (some (-1)) none).map bh).length≤1000000:=by
  have a1:(jD ht.bB none (some 3)++jD ht.bB (some (-1)) none).length≤4:=hits
  rw [List.length_append] at a1
  rw [List.length_map,List.length_map]
  omega
 have x3:aC aQ (ao (lN (ao (aC aR (au 1) (ao (az (.int 1))))) lM (lG (ao (az (.int 3)))))) (ao (lN (ao (aC aR (au 1) (ao (az (.int 1))))) (lG (ao (iH (ao (az (.int 1)))))) lM)) e1 C2=some (.im (.tuple (its.map bh)),e1,C2):=by
  have:=aO (op:=aQ) (aF x1 rfl) (aF x2 rfl) (S9 hlen)
  rw [bZ,←List.map_append] at this
  exact this
 obtain ⟨env',C',e,ds,v3,he,hl,hC⟩:=cZ (g:=gh 3) (body:=ye) (its:=its.map bh) (env:=e1) (C:=C2)
  (fun i env C3=>∃(ds:List Int) (v3:Option Vl),env=[some (.ce b),some (.im (bG ht)),some (.ow (.list (ds.map .int))),v3]∧ds.length=3 + 4 * i∧C3=C2)
  ⟨[0,d1,d2],none,rfl,rfl,rfl⟩ (fun i d env C3 hd hI=>by
   obtain ⟨ds,v3,rfl,hl,rfl⟩:=hI
   have hi:i < 4:=by
    have:=(List.getElem?_eq_some_iff.mp hd).1
    rw [List.length_map] at this
    omega
   rw [List.getElem?_map] at hd
   cases hx:its[i]? with
   | none=>rw [hx] at hd; cases hd
   | some r=>
    rw [hx] at hd
    cases hd
    let en:En:=[some (.ce b),some (.im (bG ht)),some (.ow (.list (ds.map .int))),some (.im (bh r))]
    have y4:aC aR (au 3) (ao (az (.int 4))) en C3=some (.im (.int r.2.2.2.2.1),en,C3):=aO (x:=bh r) (y:=.int 4) (e1:=en) (e2:=en) rfl (aF rfl rfl) (ji (i:=4) rfl)
    have y5:aC aR (au 3) (ao (az (.int 5))) en C3=some (.im (.int r.2.2.2.2.2),en,C3):=aO (x:=bh r) (y:=.int 5) (e1:=en) (e2:=en) rfl (aF rfl rfl) (ji (i:=5) rfl)
    have y6:aC jg (ao (aC aR (au 3) (ao (az (.int 4))))) (ao (az (.int 1))) en C3=some (.im (.int (r.2.2.2.2.1 - 1)),en,C3):=aO (op:=jg) (x:=.int r.2.2.2.2.1) (y:=.int 1) (e1:=en) (e2:=en) (aF y4 rfl) (aF rfl rfl) rfl
    have y7:aC aQ (ao (aC aR (au 3) (ao (az (.int 5))))) (ao (az (.int 1))) en C3=some (.im (.int (r.2.2.2.2.2 + 1)),en,C3):=aO (op:=aQ) (x:=.int r.2.2.2.2.2) (y:=.int 1) (e1:=en) (e2:=en) (aF y5 rfl) (aF rfl rfl) rfl
    have y8:=Bu (ds:=[.int r.2.2.2.2.1,.int r.2.2.2.2.2,.int (r.2.2.2.2.1 - 1),.int (r.2.2.2.2.2 + 1)]) (dh y4 (dh y5 (dh y6 (dh y7 (show aG en C3=some ([],en,C3) from rfl))))) rfl (by show 4≤1000000; omega)
    have y9:=fZ (i:=2) (aO (op:=aQ) (fa:=au 2) (x:=.list (ds.map .int)) (e1:=en) (show au 2 en C3=_ from rfl) (aF y8 rfl) (tG (by rw [List.length_map,hl]; show 3 + 4 * i + 4≤_; omega)))
    refine ⟨en,.nx,_,C3,rfl,y9,.inl rfl,ds++[r.2.2.2.2.1,r.2.2.2.2.2,r.2.2.2.2.1 - 1,r.2.2.2.2.2 + 1],some (.im (bh r)),?_,by rw [List.length_append,hl]; show 3 + 4 * i + 4=_; omega,rfl⟩
    rw [List.map_append]
    rfl)
 subst he
 subst hC
 rw [List.length_map] at hl
 let gF:En:=[some (.ce b),some (.im (bG ht)),some (.ow (.list (ds.map .int))),v3]
 let pB:Int→Bool:=fun d=>decide (0≤d)&&decide (d < 100000)
 have t1:gm .one oE oF [] (ds.map .int) C'=some ((ds.filter pB).map .int,C'):=by
  refine jm PyData.int pB PyData.int fun d _=>⟨[.int d],rfl,?_,fun _=>⟨.im (.int d),_,rfl,rfl⟩⟩
  refine jd (e1:=[some (.im (.int d))]) ?_
  show gO u5 u0 (ao (az (.int 0))) (au 0) (ao (az (.int 100000))) [some (.im (.int d))] C'=_
  unfold gO
  rw [show ao (az (.int 0)) [some (.im (.int d))] C'=some (.int 0,[some (.im (.int d))],C') from rfl]
  simp only
  rw [show au 0 [some (Vl.im (.int d))] C'=some (.int d,[some (.im (.int d))],C') from rfl]
  simp only [u5]
  by_cases h1:0≤d
  ·rw [decide_eq_true h1]
   simp only
   rw [show ao (az (.int 100000)) [some (.im (.int d))] C'=some (.int 100000,[some (.im (.int d))],C') from rfl]
   simp only [u0]
   show _=some (Vl.im (.bool (decide (0≤d)&&decide (d < 100000))),_,_)
   rw [decide_eq_true h1,Bool.true_and]
  ·rw [decide_eq_false h1]
   show _=some (Vl.im (.bool (decide (0≤d)&&decide (d < 100000))),_,_)
   rw [decide_eq_false h1,Bool.false_and]
 have fl:(ds.filter pB).length≤ds.length:=List.length_filter_le _ _
 have t2:mq (iB (au 2)) .one oE oF [] gF C'=some (.ow (.list ((ds.filter pB).map .int)),gF,C'):=pL (sI (f:=au 2) (d:=.list (ds.map .int)) (e1:=gF) rfl rfl) t1 (by rw [List.length_map]; omega) (qi _)
 have t3:Ec (ao (mq (iB (au 2)) .one oE oF [])) gF C'=some (.ow (.list ((fV ltI (dedup (ds.filter pB))).map .int)),gF,C'):=by
  have hs:vG ((ds.filter pB).map .int)=some ((fV ltI (dedup (ds.filter pB))).map .int):=by
   unfold vG
   rw [if_pos (by rw [List.length_map]; omega),oK]
  unfold Ec
  rw [aF t2 rfl]
  simp only [hs]
 refine ⟨fV ltI (dedup (ds.filter pB)),C',?_,hB2.mono (by omega),by omega⟩
 exact yw (k:=2) (n:=4) (en:=e0) rfl rfl ((seq_eq s1).trans ((seq_eq ((kZ (zF x3 rfl rfl)).trans e)).trans (yu t3))) rfl (by omega)
end pN
set_option maxHeartbeats 4000000
namespace pN
open PySem L2
theorem Qf {c:FT} {f g:FS} {env:En} {C C1:Ce} {b:Bool} (h:c env C=some (b,C1)):dI c f g env C=if b then f env C1 else g env C1:=by
 unfold dI
 rw [h]
 cases b <;> rfl
theorem Td {c:FT} {env:En} {C C1:Ce} {b:Bool} (h:c env C=some (b,C1)):dY c env C=some (!b,C1):=by
 unfold dY
 rw [h]
theorem Wz {f:FB} {env e1:En} {C C1:Ce} {b:Bool} (h:f env C=some (.bool b,e1,C1)):gM f env C=some (b,C1):=by
 unfold gM
 rw [h]
 rfl
theorem Te {zs:List Str} {ps:List (Str×Str)} (hN:Names zs) (hP:dg zs ps) (z:Str):∃o,lH (iu (yx ps ps)) (.str z)=some o∧o.getD (.list [])=.list ((up ps z).map .str):=by
 have nd:=gq hN hP
 rw [uz]
 cases e:eN ps z with
 | none=>
  refine ⟨none,congrArg some (Fe fun hm=>?_),by rw [Jy e]; rfl⟩
  obtain ⟨x,hx,hz⟩:=List.mem_map.mp hm
  have:=(cM nd (z:=z) (w:=x.2)).mpr (by rw [←hz]; exact hx)
  rw [e] at this
  cases this
 | some w=>exact ⟨_,congrArg some (JM nd ((cM nd).mp e)),rfl⟩
abbrev uF (ns:List Int) (k:Int) (b:Nat) (zs:List Str) (ps:List (Str×Str)) (ht:jl) (kept:Str) (v8 v9 v10 v11 fH dO d8 eY:Option Vl):En:=
 [some (.sc ns),some (.im (.int k)),some (.ce b),some (.im (.list (zs.map .str))),some (.im (.list (ps.map bD))),some (.im (bG ht)),some (.im (.str kept)),some (.ow (.dict (iu (yx ps ps)))),v8,v9,v10,v11,fH,dO,d8,eY]
def qy (who:Str) (day:Int) (r:mY):Bool:=decide (r.2.1=who)&&(decide (r.2.2.2.2.1≤day)&&decide (day≤r.2.2.2.2.2))
section
variable {C:Ce} {ns:List Int} {k:Int} {b:Nat} {zs:List Str} {ps:List (Str×Str)} {ht:jl} {kept:Str} {v8 v9 v10 v11 fH dO d8 eY:Option Vl} (hN:Names zs) (hP:dg zs ps) (hG:mZ zs ps ht)
theorem HD (who z:Str) (day:Int):(ht.bB.filter (qy who day)).filter (fun r=>decide (r.2.2.2.1∈up ps z))=ht.bB.filter (uO who (up ps z) day):=by
 rw [List.filter_filter]
 congr 1
 funext r
 unfold qy uO
 rw [Bool.and_left_comm]
include hN hP hG
theorem Tf (day:Int) (who z:Str):∃w13,yg (uF ns k b zs ps ht kept v8 (some (.im (.int day))) (some (.im (.str who))) (some (.ow (.list ((ht.bB.filter (qy who day)).map bh)))) (some (.im (.str z))) dO d8 eY) C=some (.nx,uF ns k b zs ps ht kept v8 (some (.im (.int day))) (some (.im (.str who))) (some (.ow (.list ((ht.bB.filter (qy who day)).map bh)))) (some (.im (.str z))) w13 d8 eY,C):=by
 let en:=uF ns k b zs ps ht kept v8 (some (.im (.int day))) (some (.im (.str who))) (some (.ow (.list ((ht.bB.filter (qy who day)).map bh)))) (some (.im (.str z))) dO d8 eY
 obtain ⟨o,ho1,ho2⟩:=Te hN hP z
 have t1:gm .one nj pQ [some (.im (.dict (iu (yx ps ps)))),some (.im (.str z))] ((ht.bB.filter (qy who day)).map bh) C=some ((ht.bB.filter (uO who (up ps z) day)).map fun r=>.int r.2.2.1,C):=by
  rw [←HD]
  refine jm bh (fun r=>decide (r.2.2.2.1∈up ps z)) (fun r=>.int r.2.2.1) fun r _=>⟨[bh r],rfl,?_,fun _=>⟨.im (.int r.2.2.1),_,aO (x:=bh r) (y:=.int 2) rfl (aF rfl rfl) (ji (i:=2) rfl),rfl⟩⟩
  let fs:En:=[some (.im (bh r)),some (.im (.dict (iu (yx ps ps)))),some (.im (.str z))]
  show nj fs C=_
  have g:Bm (au 1) (au 2) (bH aG) fs C=some (.im (o.getD (.list [])),fs,C):=get_eq (e1:=fs) (e2:=fs) (e3:=fs) (kvs:=iu (yx ps ps)) (dk:=.str z) (r:=.ow (.list [])) rfl rfl rfl ho1 rfl rfl
  rw [ho2] at g
  exact jd (aO (x:=.str r.2.2.2.1) (e1:=fs) (aF (aO (op:=aR) (x:=bh r) (y:=.int 3) (e1:=fs) (e2:=fs) rfl (aF rfl rfl) (ji (i:=3) rfl)) rfl) (aF g rfl) (JH _ _))
 let hl:=ht.bB.filter (uO who (up ps z) day)
 have hlen:hl.length≤20:=Nat.le_trans (List.length_filter_le _ _) hG.r20
 have hm:hl.map (fun r=>PyData.int r.2.2.1)=(hl.map (·.2.2.1)).map .int:=by rw [List.map_map]; rfl
 have t2:mq (iB (au 11)) .one nj pQ [7,12] en C=some (.ow (.list (hl.map fun r=>.int r.2.2.1)),en,C):=pL (sI (f:=au 11) (d:=.list ((ht.bB.filter (qy who day)).map bh)) (e1:=en) rfl rfl) t1 (by rw [List.length_map]; omega) (by rw [hm]; exact qi _)
 have t3:aC aQ (ao (bH (aa (az (.int 0)) aG))) (ao (mq (iB (au 11)) .one nj pQ [7,12])) en C=some (.ow (.list (.int 0::hl.map fun r=>.int r.2.2.1)),en,C):=aO (x:=.list [.int 0]) (e1:=en) (aF (r:=.ow (.list [.int 0])) rfl rfl) (aF t2 rfl) (tG (by rw [List.length_map]; show 1 + hl.length≤_; omega))
 have t4:bC uv (aP (ao (aC aQ (ao (bH (aa (az (.int 0)) aG))) (ao (mq (iB (au 11)) .one nj pQ [7,12])))) bF) en C=some (.im (.int (gB ht.bB who (up ps z) day)),en,C):=by
  refine (fK (op:=uv) (r:=.im (.int (gB ht.bB who (up ps z) day))) (aF t3 rfl) ?_).trans (by rw [bZ])
  have hi:intsOf (.int 0::hl.map fun r=>PyData.int r.2.2.1)=some (0::hl.map (·.2.2.1)):=by
   have:=oK (0::hl.map (·.2.2.1))
   rw [List.map_cons,←hm] at this
   exact this
  unfold uv
  simp only [hi]
  rfl
 let w:=some (Vl.im (.int (gB ht.bB who (up ps z) day)))
 let jZ:=uF ns k b zs ps ht kept v8 (some (.im (.int day))) (some (.im (.str who))) (some (.ow (.list ((ht.bB.filter (qy who day)).map bh)))) (some (.im (.str z))) w d8 eY
 refine ⟨w,(seq_eq (fZ (i:=13) t4)).trans ?_⟩
 have c1:aU fD (aa (aH 5) (aa (aH 10) (aa (aH 12) (aa (aH 9) aG)))) jZ C=some (.im (.int (gB ht.bB who (up ps z) day)),jZ,C):=(cR (xs:=[.im (bG ht),.im (.str who),.im (.str z),.im (.int day)]) (e1:=jZ) rfl (q9 hN hP hG who z day)).trans (by rw [bZ])
 have c2:=cR (f:=jc 3) (uN c1 (show aH 13 jZ C=some (.im (.int (gB ht.bB who (up ps z) day)),jZ,C) from rfl)) (S8 _)
 exact (Qf (Td (Wz (aF c2 rfl)))).trans rfl
theorem Tg (day:Int) (who:Str) (x:Str×Str) (hx:x∈ps):∃w15,yf (uF ns k b zs ps ht kept v8 (some (.im (.int day))) (some (.im (.str who))) v11 (some (.im (.str x.1))) dO (some (.im (.str x.2))) eY) C=some (.nx,uF ns k b zs ps ht kept v8 (some (.im (.int day))) (some (.im (.str who))) v11 (some (.im (.str x.1))) dO (some (.im (.str x.2))) w15,C):=by
 let en:=uF ns k b zs ps ht kept v8 (some (.im (.int day))) (some (.im (.str who))) v11 (some (.im (.str x.1))) dO (some (.im (.str x.2))) eY
 have lk:eN ps x.1=some x.2:=(cM (gq hN hP)).mpr hx
 have hu:=Jx hN hP lk
 have a:∃a:Int,iG (b7 (aC qm (au 14) (ao (az (.str (Str.ofString "")))))) (aU fD (aa (aH 5) (aa (aH 10) (aa (aH 14) (aa (aH 9) aG))))) (az (.int 0)) en C=some (.im (.int a),en,C)∧a≤gB ht.bB who (up ps x.1) day:=by
  have t:b7 (aC qm (au 14) (ao (az (.str (Str.ofString ""))))) en C=some (!decide (x.2=Str.ofString ""),C):=jd (aO (x:=.str x.2) (y:=.str (Str.ofString "")) (e1:=en) (e2:=en) rfl (aF rfl rfl) (JL _ _))
  unfold iG
  rw [t]
  cases hd:decide (x.2=Str.ofString "") with
  | true=>
   refine ⟨0,rfl,?_⟩
   exact (n6.mp (Int.le_refl _)).1
  | false=>
   refine ⟨gB ht.bB who (up ps x.2) day,(cR (xs:=[.im (bG ht),.im (.str who),.im (.str x.2),.im (.int day)]) (e1:=en) rfl (q9 hN hP hG who x.2 day)).trans (by rw [bZ]),Ew fun z hz=>?_⟩
   rw [hu]
   exact List.mem_cons_of_mem _ hz
 obtain ⟨a,ha,hle⟩:=a
 refine ⟨some (.im (.int a)),(seq_eq (fZ (i:=15) ha)).trans ?_⟩
 let jZ:=uF ns k b zs ps ht kept v8 (some (.im (.int day))) (some (.im (.str who))) v11 (some (.im (.str x.1))) dO (some (.im (.str x.2))) (some (.im (.int a)))
 have c1:aU fD (aa (aH 5) (aa (aH 10) (aa (aH 12) (aa (aH 9) aG)))) jZ C=some (.im (.int (gB ht.bB who (up ps x.1) day)),jZ,C):=(cR (xs:=[.im (bG ht),.im (.str who),.im (.str x.1),.im (.int day)]) (e1:=jZ) rfl (q9 hN hP hG who x.1 day)).trans (by rw [bZ])
 have c2:b7 (aC u0 (ao (aU fD (aa (aH 5) (aa (aH 10) (aa (aH 12) (aa (aH 9) aG)))))) (au 15)) jZ C=some (false,C):=by
  refine jd (aO (op:=u0) (y:=.int a) (e1:=jZ) (e2:=jZ) (aF c1 rfl) rfl ?_)
  show some (Vl.im (.bool (decide (gB ht.bB who (up ps x.1) day < a))))=_
  rw [decide_eq_false (by omega)]
 exact (Qf c2).trans rfl
theorem Th (day:Int) (who:Str):∃w11 w12 w13 w14 w15,yj (uF ns k b zs ps ht kept v8 (some (.im (.int day))) (some (.im (.str who))) v11 fH dO d8 eY) C=some (.nx,uF ns k b zs ps ht kept v8 (some (.im (.int day))) (some (.im (.str who))) w11 w12 w13 w14 w15,C):=by
 let en:=uF ns k b zs ps ht kept v8 (some (.im (.int day))) (some (.im (.str who))) v11 fH dO d8 eY
 let hl:=ht.bB.filter (qy who day)
 have hlen:hl.length≤20:=Nat.le_trans (List.length_filter_le _ _) hG.r20
 have t1:gm .one sX yh [some (.im (.str who)),some (.im (.int day))] (ht.bB.map bh) C=some (hl.map bh,C):=by
  refine jm bh (qy who day) bh fun r _=>⟨[bh r],rfl,?_,fun _=>⟨.im (bh r),_,rfl,rfl⟩⟩
  let fs:En:=[some (.im (bh r)),some (.im (.str who)),some (.im (.int day))]
  show sX fs C=_
  refine and_eq (jd (aO (x:=.str r.2.1) (y:=.str who) (e1:=fs) (e2:=fs) (aF (aO (op:=aR) (x:=bh r) (y:=.int 1) (e1:=fs) (e2:=fs) rfl (aF rfl rfl) (ji (i:=1) rfl)) rfl) rfl (JK _ _))) (fun _=>and_eq (jd (aO (op:=u5) (x:=.int r.2.2.2.2.1) (y:=.int day) (e1:=fs) (e2:=fs) (aF (aO (op:=aR) (x:=bh r) (y:=.int 4) (e1:=fs) (e2:=fs) rfl (aF rfl rfl) (ji (i:=4) rfl)) rfl) rfl rfl)) (fun _=>jd (aO (op:=u5) (x:=.int day) (y:=.int r.2.2.2.2.2) (e1:=fs) (e2:=fs) rfl (aF (aO (op:=aR) (x:=bh r) (y:=.int 5) (e1:=fs) (e2:=fs) rfl (aF rfl rfl) (ji (i:=5) rfl)) rfl) rfl)) (fun _=>rfl)) (fun _=>rfl)
 have nl:∀l:List mY,dX (l.map bh)=true:=by
  intro l
  induction l with
  | nil=>rfl
  | cons r l ih=>show (true&&dX (l.map bh))=true; rw [ih]; rfl
 have t2:mq (iB (ao (aC aR (au 5) (ao (az (.int 1)))))) .one sX yh [10,9] en C=some (.ow (.list (hl.map bh)),en,C):=pL (sI (tH (s:=5) rfl) rfl) t1 (by rw [List.length_map]; omega) (nl _)
 let jZ:=uF ns k b zs ps ht kept v8 (some (.im (.int day))) (some (.im (.str who))) (some (.ow (.list (hl.map bh)))) fH dO d8 eY
 let qs:=ps.map (·.1)++[Str.ofString "qqqqqqqq"]
 have x1:bC p6 (aP (au 7) bF) jZ C=some (.ow (.list ((ps.map (·.1)).map .str)),jZ,C):=by
  refine fK (op:=p6) (d:=.dict (iu (yx ps ps))) (e1:=jZ) rfl ?_
  show (if (cV fP (iu (yx ps ps))).isSome then some (Vl.ow (.list ((iu (yx ps ps)).map (·.1)))) else none)=_
  rw [sU]
  rw [show (iu (yx ps ps)).map (·.1)=(ps.map (·.1)).map PyData.str by unfold iu yx; rw [List.map_map,List.map_map,List.map_map]; rfl]
  rfl
 have h8:=hG.p8
 have x2:aC aQ (ao (bC p6 (aP (au 7) bF))) (ao (bH (aa (az (.str (Str.ofString "qqqqqqqq"))) aG))) jZ C=some (.ow (.list (qs.map .str)),jZ,C):=by
  have:=aO (op:=aQ) (y:=.list [.str (Str.ofString "qqqqqqqq")]) (e2:=jZ) (aF x1 rfl) (aF (f:=bH (aa (az (.str (Str.ofString "qqqqqqqq"))) aG)) (r:=.ow (.list [.str (Str.ofString "qqqqqqqq")])) rfl rfl) (tG (by rw [List.length_map,List.length_map]; show ps.length + 1≤_; omega))
  rw [show (ps.map (·.1)).map PyData.str++[.str (Str.ofString "qqqqqqqq")]=qs.map .str by show _=(ps.map (·.1)++[Str.ofString "qqqqqqqq"]).map PyData.str; rw [List.map_append]; rfl] at this
  exact this
 obtain ⟨env',C',e,w12,w13,he,hC⟩:=cZ (g:=gh 12) (body:=yg) (its:=qs.map .str) (env:=jZ) (C:=C)
  (fun i env C1=>∃w12 w13,env=uF ns k b zs ps ht kept v8 (some (.im (.int day))) (some (.im (.str who))) (some (.ow (.list (hl.map bh)))) w12 w13 d8 eY∧C1=C)
  ⟨fH,dO,rfl,rfl⟩ (fun i d env C1 hd hI=>by
   obtain ⟨w12,w13,rfl,rfl⟩:=hI
   obtain ⟨z,_,rfl⟩:=List.mem_map.mp (List.mem_of_getElem? hd)
   obtain ⟨YH,e⟩:=Tf (C:=C1) (ns:=ns) (k:=k) (b:=b) (kept:=kept) (v8:=v8) (dO:=w13) (d8:=d8) (eY:=eY) hN hP hG day who z
   exact ⟨_,.nx,_,C1,rfl,e,.inl rfl,some (.im (.str z)),YH,rfl,rfl⟩)
 subst he
 subst hC
 let gF:=uF ns k b zs ps ht kept v8 (some (.im (.int day))) (some (.im (.str who))) (some (.ow (.list (hl.map bh)))) w12 w13 d8 eY
 obtain ⟨env',C'',e2,SJ,SM,Qq,he,hC⟩:=cZ (g:=qw 2 (bO (gh 12) (bO (gh 14) dH))) (body:=yf) (its:=ps.map bD) (env:=gF) (C:=C')
  (fun i env C1=>∃SJ SM Qq,env=uF ns k b zs ps ht kept v8 (some (.im (.int day))) (some (.im (.str who))) (some (.ow (.list (hl.map bh)))) SJ w13 SM Qq∧C1=C')
  ⟨w12,d8,eY,rfl,rfl⟩ (fun i d env C1 hd hI=>by
   obtain ⟨SJ,SM,Qq,rfl,rfl⟩:=hI
   obtain ⟨x,hx,rfl⟩:=List.mem_map.mp (List.mem_of_getElem? hd)
   obtain ⟨y15,e⟩:=Tg (C:=C1) (ns:=ns) (k:=k) (b:=b) (kept:=kept) (v8:=v8) (v11:=some (.ow (.list (hl.map bh)))) (dO:=w13) (eY:=Qq) hN hP hG day who x hx
   exact ⟨_,.nx,_,C1,rfl,e,.inl rfl,some (.im (.str x.1)),some (.im (.str x.2)),y15,rfl,rfl⟩)
 subst he
 subst hC
 refine ⟨_,_,_,_,_,(seq_eq (fZ (i:=11) t2)).trans ((seq_eq ((kZ (zF x2 rfl rfl)).trans e)).trans ((kZ (Pa (f:=aH 4) (env:=gF) (r:=.im (.list (ps.map bD))) (d:=.list (ps.map bD)) (e1:=gF) rfl rfl rfl)).trans e2))⟩
theorem Ti (day:Int) (qs:List Str) (h8:v8=some (.ow (.list (qs.map .str)))∨v8=some (.im (.list (qs.map .str)))):∃w10 w11 w12 w13 w14 w15,pR (uF ns k b zs ps ht kept v8 (some (.im (.int day))) v10 v11 fH dO d8 eY) C=some (.nx,uF ns k b zs ps ht kept (some (.im (.list (qs.map .str)))) (some (.im (.int day))) w10 w11 w12 w13 w14 w15,C):=by
 let en:=uF ns k b zs ps ht kept v8 (some (.im (.int day))) v10 v11 fH dO d8 eY
 let jZ:=uF ns k b zs ps ht kept (some (.im (.list (qs.map .str)))) (some (.im (.int day))) v10 v11 fH dO d8 eY
 have x1:aH 8 en C=some (.im (.list (qs.map .str)),jZ,C):=by
  rcases h8 with rfl | rfl <;> rfl
 obtain ⟨env',C',e,w10,w11,w12,w13,w14,w15,he,hC⟩:=cZ (g:=gh 10) (body:=yj) (its:=qs.map .str) (env:=jZ) (C:=C)
  (fun i env C1=>∃w10 w11 w12 w13 w14 w15,env=uF ns k b zs ps ht kept (some (.im (.list (qs.map .str)))) (some (.im (.int day))) w10 w11 w12 w13 w14 w15∧C1=C)
  ⟨v10,v11,fH,dO,d8,eY,rfl,rfl⟩ (fun i d env C1 hd hI=>by
   obtain ⟨w10,w11,w12,w13,w14,w15,rfl,rfl⟩:=hI
   obtain ⟨z,_,rfl⟩:=List.mem_map.mp (List.mem_of_getElem? hd)
   obtain ⟨YD,SJ,YH,SM,Qq,e⟩:=Th (C:=C1) (ns:=ns) (k:=k) (b:=b) (kept:=kept) (v8:=some (.im (.list (qs.map .str)))) (v11:=w11) (fH:=w12) (dO:=w13) (d8:=w14) (eY:=w15) hN hP hG day z
   exact ⟨_,.nx,_,C1,rfl,e,.inl rfl,some (.im (.str z)),YD,SJ,YH,SM,Qq,rfl,rfl⟩)
 subst he
 subst hC
 exact ⟨_,_,_,_,_,_,(kZ (zF x1 rfl rfl)).trans e⟩
theorem HF (ds:List Int) (qs:List Str):∃w8 w9 w10 w11 w12 w13 w14 w15,kj (gh 9) pR (ds.map .int) (uF ns k b zs ps ht kept (some (.ow (.list (qs.map .str)))) v9 v10 v11 fH dO d8 eY) C=some (.nx,uF ns k b zs ps ht kept w8 w9 w10 w11 w12 w13 w14 w15,C):=by
 obtain ⟨env',C',e,w8,w9,w10,w11,w12,w13,w14,w15,he,h8,hC⟩:=cZ (g:=gh 9) (body:=pR) (its:=ds.map .int) (env:=uF ns k b zs ps ht kept (some (.ow (.list (qs.map .str)))) v9 v10 v11 fH dO d8 eY) (C:=C)
  (fun i env C1=>∃w8 w9 w10 w11 w12 w13 w14 w15,env=uF ns k b zs ps ht kept w8 w9 w10 w11 w12 w13 w14 w15∧(w8=some (.ow (.list (qs.map .str)))∨w8=some (.im (.list (qs.map .str))))∧C1=C)
  ⟨_,v9,v10,v11,fH,dO,d8,eY,rfl,.inl rfl,rfl⟩ (fun i d env C1 hd hI=>by
   obtain ⟨w8,w9,w10,w11,w12,w13,w14,w15,rfl,h8,rfl⟩:=hI
   obtain ⟨z,_,rfl⟩:=List.mem_map.mp (List.mem_of_getElem? hd)
   obtain ⟨Wq,YD,SJ,YH,SM,Qq,e⟩:=Ti (C:=C1) (ns:=ns) (k:=k) (b:=b) (kept:=kept) (v8:=w8) (v10:=w10) (v11:=w11) (fH:=w12) (dO:=w13) (d8:=w14) (eY:=w15) hN hP hG z qs h8
   exact ⟨_,.nx,_,C1,rfl,e,.inl rfl,_,some (.im (.int z)),Wq,YD,SJ,YH,SM,Qq,rfl,.inr rfl,rfl⟩)
 subst he
 subst hC
 exact ⟨w8,w9,w10,w11,w12,w13,w14,w15,e⟩
end
end pN
set_option maxHeartbeats 4000000
namespace pN
open PySem L2
theorem zW:∀ps:List (Str×Str),j4 (ps.map bD)=true
 | []=>rfl
 | p::ps=>by show (true&&j4 (ps.map bD))=true; rw [zW ps]; rfl
theorem zX:∀ps:List mY,j4 (ps.map bh)=true
 | []=>rfl
 | p::ps=>by show (true&&j4 (ps.map bh))=true; rw [zX ps]; rfl
theorem yE:∀ps:List qQ,j4 (ps.map jN)=true
 | []=>rfl
 | p::ps=>by show (true&&j4 (ps.map jN))=true; rw [yE ps]; rfl
theorem zY:∀ps:List pM,j4 (ps.map lg)=true
 | []=>rfl
 | p::ps=>by show (true&&j4 (ps.map lg))=true; rw [zY ps]; rfl
theorem zZ:∀rs:List eO,j4 (rs.map jE)=true
 | []=>rfl
 | r::rs=>by
  show ((true&&(true&&(j4 (r.2.2.map lg)&&true)))&&j4 (rs.map jE))=true
  rw [zZ rs,zY]
  rfl
theorem Lh (h:jl):KD (bG h)=true:=by
 show (j4 (h.ps.map bD)&&(j4 (h.bB.map bh)&&(j4 (h.leaves.map jN)&&(j4 (h.rules.map jE)&&true))))=true
 rw [zW,zX,yE,zZ]
 rfl
theorem JN {zs:List Str} {ps:List (Str×Str)} {h:jl} (hz:∀z∈zs,nameB z=true) (hp:dg zs ps) (g:mZ zs ps h):kJ [bG h]=some (.im (.str (bG h).shown)):=by
 have s:=K6 hz hp g
 unfold kJ
 refine if_pos ?_
 have h1:(bG h).depth≤60:=Nat.le_trans s.deep (by decide)
 have h2:(bG h).shown.length≤jA:=Nat.le_trans s.len (by show 200000≤1000000; decide)
 rw [Lh,s.Wo,decide_eq_true h1,decide_eq_true h2]
 rfl
theorem WD (C:Ce) {x y:Int} (h0:0≤x) (h1:0≤y) (h2:y≤3000000000):Bx (C++[[x,y,0]]) C.length 0:=by
 refine ⟨x,y,0,?_,h0,h1,h2,Int.le_refl _,Int.le_refl _⟩
 rw [List.getElem?_append_right (Nat.le_refl _),Nat.sub_self]
 rfl
theorem Qg {C:Ce} {ns:List Int} {k:Int} {v2 v3 v4 v5 v6 v7 v8 v9 v10 v11 fH dO d8 eY:Option Vl} (k0:0≤k) (k9:k≤9):
  ∃(C':Ce) (w2 w3 w4 w5 w6 w7 w8 w9 w10 w11 w12 w13 w14 w15:Option Vl),sY [some (.sc ns),some (.im (.int k)),v2,v3,v4,v5,v6,v7,v8,v9,v10,v11,fH,dO,d8,eY] C=some (.nx,[some (.sc ns),some (.im (.int k)),w2,w3,w4,w5,w6,w7,w8,w9,w10,w11,w12,w13,w14,w15],C'):=by
 let e0:En:=[some (.sc ns),some (.im (.int k)),v2,v3,v4,v5,v6,v7,v8,v9,v10,v11,fH,dO,d8,eY]
 obtain ⟨x,y,hb,x0,y0,y3⟩:=Wy (C:=C) (ns:=ns) k0 k9
 let C0:Ce:=C++[[x,y,0]]
 let b:=C.length
 let e1:En:=[some (.sc ns),some (.im (.int k)),some (.ce b),v3,v4,v5,v6,v7,v8,v9,v10,v11,fH,dO,d8,eY]
 have c1:aU qX (aa (aH 0) (aa (aH 1) aG)) e0 C=some (.ow (.list [.int x,.int y,.int 0]),e0,C):=cR (xs:=[.sc ns,.im (.int k)]) (e1:=e0) rfl hb
 have s1:iI 2 (aU qX (aa (aH 0) (aa (aH 1) aG))) e0 C=some (.nx,e1,C0):=by
  unfold iI
  rw [c1]
  rfl
 have hB0:Bx C0 b 0:=WD C x0 y0 y3
 obtain ⟨zs,C1,e2,hN,h9,mG,l1⟩:=PN (m:=9) hB0 (by omega) (by omega) (by omega)
 have s2:=fZ (i:=3) (cR (f:=lA) (g:=aa (aH 2) (aa (az (.int 9)) aG)) (env:=e1) (xs:=[.ce b,.im (.int 9)]) (e1:=e1) rfl e2)
 have h9':zs.length=9:=by rw [h9]; rfl
 obtain ⟨ps,ht,C2,e3,hP,p1,hG,hB2,l2⟩:=Qe mG (by omega) h9' hN.1
 let e4:En:=[some (.sc ns),some (.im (.int k)),some (.ce b),some (.ow (.list (zs.map .str))),v4,v5,v6,v7,v8,v9,v10,v11,fH,dO,d8,eY]
 let e4b:En:=[some (.sc ns),some (.im (.int k)),some (.ce b),some (.im (.list (zs.map .str))),v4,v5,v6,v7,v8,v9,v10,v11,fH,dO,d8,eY]
 let e5:En:=[some (.sc ns),some (.im (.int k)),some (.ce b),some (.im (.list (zs.map .str))),some (.im (.list (ps.map bD))),some (.im (bG ht)),v6,v7,v8,v9,v10,v11,fH,dO,d8,eY]
 have c3:aU lC (aa (aH 2) (aa (aH 3) aG)) e4 C1=some (.im (.tuple [.list (ps.map bD),bG ht]),e4b,C2):=cR (xs:=[.ce b,.im (.list (zs.map .str))]) (e1:=e4b) rfl e3
 have s3:iR (aU lC (aa (aH 2) (aa (aH 3) aG))) (qw 2 (bO (gh 4) (bO (gh 5) dH))) e4 C1=some (.nx,e5,C2):=by
  unfold iR
  rw [c3]
  rfl
 have c4:bC kJ (aP (au 5) bF) e5 C2=some (.im (.str (bG ht).shown),e5,C2):=(fK (op:=kJ) (d:=bG ht) (e1:=e5) rfl (JN hN.2 hP hG)).trans (by rw [bZ])
 have c5:aU qg (aa (aH 4) aG) e5 C2=some (.ow (.dict (iu (yx ps ps))),e5,C2):=cR (xs:=[.im (.list (ps.map bD))]) (e1:=e5) rfl (SX hN hP hG.p8)
 have s4:=uy (is:=[6,7]) (Es c4 c5) rfl (by show 2≤1000000; omega)
 let kept:=(bG ht).shown
 let e6:=uF ns k b zs ps ht kept v8 v9 v10 v11 fH dO d8 eY
 obtain ⟨r1,r1E⟩:∃r,r=ht.bB.map (·.2.1):=⟨_,rfl⟩
 have t1:gm .one gj nq [] (ht.bB.map bh) C2=some ((ht.bB.filter fun _=>true).map fun r=>.str r.2.1,C2):=
  jm bh (fun _=>true) (fun r=>.str r.2.1) fun r _=>⟨[bh r],rfl,rfl,fun _=>⟨.im (.str r.2.1),_,aO (op:=aR) (x:=bh r) (y:=.int 1) (e1:=[some (.im (bh r))]) (e2:=[some (.im (bh r))]) rfl (aF rfl rfl) (ji (i:=1) rfl),rfl⟩⟩
 rw [List.filter_eq_self.mpr fun _ _=>rfl] at t1
 have hm:(ht.bB.map fun r=>PyData.str r.2.1)=r1.map .str:=by rw [r1E,List.map_map]; rfl
 rw [hm] at t1
 have h20:=hG.r20
 have hr1:r1.length≤20:=by rw [r1E,List.length_map]; exact h20
 have t2:mq (iB (ao (aC aR (au 5) (ao (az (.int 1)))))) .one gj nq [] e6 C2=some (.ow (.list (r1.map .str)),e6,C2):=pL (sI (tH (s:=5) rfl) rfl) t1 (by rw [List.length_map]; omega) (jY _)
 obtain ⟨r2,r2E⟩:∃r,r=jD zs none (some 1):=⟨_,rfl⟩
 have hr2:r2.length≤1:=by rw [r2E]; exact yD zs 1
 have t3:lN (au 3) lM (lG (ao (az (.int 1)))) e6 C2=some (.ow (.list (r2.map .str)),e6,C2):=
  Jr (d:=.list (zs.map .str)) (e1:=e6) rfl (show lM e6 C2=some (none,C2) from rfl) (show lG (ao (az (.int 1))) e6 C2=some (some 1,C2) from rfl) (by show some (Vl.ow (.list (jD (zs.map .str) none (some 1))))=_; rw [yC,r2E])
 obtain ⟨r3,r3E⟩:∃r,r=r1++r2:=⟨_,rfl⟩
 have t4:aC aQ (ao (mq (iB (ao (aC aR (au 5) (ao (az (.int 1)))))) .one gj nq [])) (ao (lN (au 3) lM (lG (ao (az (.int 1)))))) e6 C2=some (.ow (.list (r3.map .str)),e6,C2):=by
  have:=aO (op:=aQ) (aF t2 rfl) (aF t3 rfl) (tG (by rw [List.length_map,List.length_map]; omega))
  rw [←List.map_append,←r3E] at this
  exact this
 have hr3:r3.length≤21:=by rw [r3E,List.length_append]; omega
 obtain ⟨r4,r4E⟩:∃r,r=r3++[Str.ofString "qqqqqqqq"]:=⟨_,rfl⟩
 have t5:aC aQ (ao (aC aQ (ao (mq (iB (ao (aC aR (au 5) (ao (az (.int 1)))))) .one gj nq [])) (ao (lN (au 3) lM (lG (ao (az (.int 1)))))))) (ao (bH (aa (az (.str (Str.ofString "qqqqqqqq"))) aG))) e6 C2=some (.ow (.list (r4.map .str)),e6,C2):=by
  have:=aO (op:=aQ) (y:=.list [.str (Str.ofString "qqqqqqqq")]) (e2:=e6) (aF t4 rfl) (aF (f:=bH (aa (az (.str (Str.ofString "qqqqqqqq"))) aG)) (r:=.ow (.list [.str (Str.ofString "qqqqqqqq")])) rfl rfl) (tG (by rw [List.length_map]; show r3.length + 1≤_; omega))
  rw [show r3.map PyData.str++[.str (Str.ofString "qqqqqqqq")]=r4.map .str by rw [r4E,List.map_append]; rfl] at this
  exact this
 have hr4:r4.length≤22:=by rw [r4E,List.length_append]; show r3.length + 1≤22; omega
 obtain ⟨qs,qsE⟩:∃r,r=fV strLt (dedup r4):=⟨_,rfl⟩
 have t6:Ed (ao (aC aQ (ao (aC aQ (ao (mq (iB (ao (aC aR (au 5) (ao (az (.int 1)))))) .one gj nq [])) (ao (lN (au 3) lM (lG (ao (az (.int 1)))))))) (ao (bH (aa (az (.str (Str.ofString "qqqqqqqq"))) aG))))) e6 C2=some (.ow (.list (qs.map .str)),e6,C2):=by
  have hs:sG (r4.map .str)=some (qs.map .str):=by
   unfold sG
   rw [if_pos (by rw [List.length_map]; omega),yr,qsE]
  unfold Ed
  rw [aF t5 rfl]
  simp only [hs]
 have s5:=fZ (i:=8) t6
 let e7:=uF ns k b zs ps ht kept (some (.ow (.list (qs.map .str)))) v9 v10 v11 fH dO d8 eY
 obtain ⟨ds,C3,e8,hB3,l3⟩:=Tc hB2 (by omega) h20
 have c8:aU oG (aa (aH 2) (aa (aH 5) aG)) e7 C2=some (.ow (.list (ds.map .int)),e7,C3):=cR (xs:=[.ce b,.im (bG ht)]) (e1:=e7) rfl e8
 obtain ⟨w8,w9,w10,w11,w12,w13,w14,w15,e9⟩:=HF (C:=C3) (ns:=ns) (k:=k) (b:=b) (kept:=kept) (v9:=v9) (v10:=v10) (v11:=v11) (fH:=fH) (dO:=dO) (d8:=d8) (eY:=eY) hN hP hG ds qs
 have s6:dB (iV (aU oG (aa (aH 2) (aa (aH 5) aG)))) (gh 9) pR e7 C2=_:=(kZ (zF c8 rfl rfl)).trans e9
 let e10:=uF ns k b zs ps ht kept w8 w9 w10 w11 w12 w13 w14 w15
 have YJ:bC kJ (aP (au 5) bF) e10 C3=some (.im (.str (bG ht).shown),e10,C3):=(fK (op:=kJ) (d:=bG ht) (e1:=e10) rfl (JN hN.2 hP hG)).trans (by rw [bZ])
 have YK:b7 (aC qm (ao (bC kJ (aP (au 5) bF))) (au 6)) e10 C3=some (false,C3):=by
  refine jd (aO (op:=qm) (y:=.str kept) (e1:=e10) (e2:=e10) (aF YJ rfl) rfl ((JL _ _).trans ?_))
  rw [decide_eq_true (show (bG ht).shown=kept from rfl)]
  rfl
 exact ⟨C3,_,_,_,_,_,_,_,_,_,_,_,_,_,_,(seq_eq s1).trans ((seq_eq s2).trans ((seq_eq s3).trans ((seq_eq s4).trans ((seq_eq s5).trans ((seq_eq s6).trans ((Qf YK).trans rfl))))))⟩
theorem Qh (ns:List Int) (h:ns.length≤63):∃C',zO [.sc ns] []=some (.im (.bool true),C'):=by
 let e0:En:=[some (.sc ns),none,none,none,none,none,none,none,none,none,none,none,none,none,none,none]
 obtain ⟨m,hm,m1,m2⟩:∃m:Int,aC aQ (ao (az (.int 1))) (ao (bC ur (aP (ao (az (.int 1))) (aP (ao (cY 0)) bF)))) e0 []=some (.im (.int m),e0,[])∧0≤m∧m≤2:=by
  have t:bC ur (aP (ao (az (.int 1))) (aP (ao (cY 0)) bF)) e0 []=some (.im (.int (if (ns.length:Int) < 1 then (ns.length:Int) else 1)),e0,[]):=rfl
  refine ⟨1 + (if (ns.length:Int) < 1 then (ns.length:Int) else 1),aO (op:=aQ) (x:=.int 1) (e1:=e0) (aF rfl rfl) (aF t rfl) rfl,?_,?_⟩ <;> split <;> omega
 obtain ⟨env',C',e,v1,v2,v3,v4,v5,v6,v7,v8,v9,v10,v11,fH,dO,d8,eY,he⟩:=cZ (g:=gh 1) (body:=sY) (its:=nQ 0 m.toNat) (env:=e0) (C:=[])
  (fun i env C1=>∃v1 v2 v3 v4 v5 v6 v7 v8 v9 v10 v11 fH dO d8 eY:Option Vl,env=[some (.sc ns),v1,v2,v3,v4,v5,v6,v7,v8,v9,v10,v11,fH,dO,d8,eY])
  ⟨none,none,none,none,none,none,none,none,none,none,none,none,none,none,none,rfl⟩ (fun i d env C1 hd hI=>by
   obtain ⟨v1,v2,v3,v4,v5,v6,v7,v8,v9,v10,v11,fH,dO,d8,eY,rfl⟩:=hI
   obtain ⟨rfl,hi⟩:=nW hd
   obtain ⟨C2,w2,w3,w4,w5,w6,w7,w8,w9,w10,w11,w12,w13,w14,w15,e⟩:=Qg (C:=C1) (ns:=ns) (k:=0 + (i:Int)) (v2:=v2) (v3:=v3) (v4:=v4) (v5:=v5) (v6:=v6) (v7:=v7) (v8:=v8) (v9:=v9) (v10:=v10) (v11:=v11) (fH:=fH) (dO:=dO) (d8:=d8) (eY:=eY) (by omega) (by omega)
   exact ⟨_,.nx,_,C2,rfl,e,.inl rfl,_,w2,w3,w4,w5,w6,w7,w8,w9,w10,w11,w12,w13,w14,w15,rfl⟩)
 subst he
 have s1:dB (zx (ao (aC aQ (ao (az (.int 1))) (ao (bC ur (aP (ao (az (.int 1))) (aP (ao (cY 0)) bF))))))) (gh 1) sY e0 []=_:=(kZ (Bs (aF hm rfl) (by omega) (by omega))).trans e
 have b:Pu e0 []=some (.rt (.im (.bool true)),_,C'):=(seq_eq s1).trans rfl
 refine ⟨C'.take 0,?_⟩
 unfold zO fN
 rw [if_pos (show [Vl.sc ns].length=1 from rfl),show ([Vl.sc ns].map some++List.replicate (16 - [Vl.sc ns].length) none)=e0 from rfl,b]
 rfl
end pN
set_option maxHeartbeats 4000000
namespace pN
open PySem L2
theorem all_mk {l:PySem.W.OpenLaw} {w:World} {K:PySem.W.Frag} {h:Heap} {mg:Str→Option Value} {fa:Addr} (X:K.In h) (G:h.Ns mainGlobals mg) (hfa:mg "law"=some (.ref fa))
  {f0 f1 f2 f3 f4 f5 f6 f7 f8 f9 Zk f11 Zm Zn f14:Addr} {od0 an0 od1 an1 od2 an2 od3 an3 od4 an4 od5 an5 od6 an6 od7 an7 od8 an8 od9 an9 aaG aaH aaI aaJ aaK aaL aaM aaN aaO YL:Option Addr} {sl0 sl1 sl2 sl3 sl4 sl5 sl6 sl7 sl8 sl9 aaP aaQ aaR aaS aaT:Array (Option Value)} {oc0 kV0 dc0 pm0 cd0 ct0 oc1 kV1 dc1 pm1 cd1 ct1 oc2 kV2 dc2 pm2 cd2 ct2 oc3 kV3 dc3 pm3 cd3 ct3 oc4 kV4 dc4 pm4 cd4 ct4 oc5 kV5 dc5 pm5 cd5 ct5 oc6 kV6 dc6 pm6 cd6 ct6 oc7 kV7 dc7 pm7 cd7 ct7 oc8 kV8 dc8 pm8 cd8 ct8 oc9 kV9 dc9 pm9 cd9 ct9 aaU aaV aaW aaX YM aaY aaZ aa0 aa1 aa2 YQ aa3 aa4 aa5 aa6 aa7 YS aa8 aa9 aba abb abd YT abe abf YW YX YZ WK Y0:Value}
  (a0:PySem.W.nsIn K mainGlobals "parts_over"=some (some (.ref f0))) (l0:K.lookup f0=some ⟨oc0,od0,.func (PySem.W.fnOf "parts_over" "parts_over" (cW fL) (cJ fL) (aL fL) .none kV0 dc0 pm0 an0 cd0 ct0),sl0⟩) (c0:PySem.W.codeIn K cd0 "parts_over"=true) (k0:PySem.W.keepIn K (.ref f0)=true)
  (a1:PySem.W.nsIn K mainGlobals "rank_of"=some (some (.ref f1))) (l1:K.lookup f1=some ⟨oc1,od1,.func (PySem.W.fnOf "rank_of" "rank_of" (cW jn) (cJ jn) (aL jn) .none kV1 dc1 pm1 an1 cd1 ct1),sl1⟩) (c1:PySem.W.codeIn K cd1 "rank_of"=true) (k1:PySem.W.keepIn K (.ref f1)=true)
  (a2:PySem.W.nsIn K mainGlobals "_law_box"=some (some (.ref f2))) (l2:K.lookup f2=some ⟨oc2,od2,.func (PySem.W.fnOf "_law_box" "_law_box" (cW uA) (cJ uA) (aL uA) .none kV2 dc2 pm2 an2 cd2 ct2),sl2⟩) (c2:PySem.W.codeIn K cd2 "_law_box"=true) (k2:PySem.W.keepIn K (.ref f2)=true)
  (a3:PySem.W.nsIn K mainGlobals "_law_take"=some (some (.ref f3))) (l3:K.lookup f3=some ⟨oc3,od3,.func (PySem.W.fnOf "_law_take" "_law_take" (cW p7) (cJ p7) (aL p7) .none kV3 dc3 pm3 an3 cd3 ct3),sl3⟩) (c3:PySem.W.codeIn K cd3 "_law_take"=true) (k3:PySem.W.keepIn K (.ref f3)=true)
  (a4:PySem.W.nsIn K mainGlobals "_law_names"=some (some (.ref f4))) (l4:K.lookup f4=some ⟨oc4,od4,.func (PySem.W.fnOf "_law_names" "_law_names" (cW iZ) (cJ iZ) (aL iZ) .none kV4 dc4 pm4 an4 cd4 ct4),sl4⟩) (c4:PySem.W.codeIn K cd4 "_law_names"=true) (k4:PySem.W.keepIn K (.ref f4)=true)
  (a5:PySem.W.nsIn K mainGlobals "_law_day"=some (some (.ref f5))) (l5:K.lookup f5=some ⟨oc5,od5,.func (PySem.W.fnOf "_law_day" "_law_day" (cW uB) (cJ uB) (aL uB) .none kV5 dc5 pm5 an5 cd5 ct5),sl5⟩) (c5:PySem.W.codeIn K cd5 "_law_day"=true) (k5:PySem.W.keepIn K (.ref f5)=true)
  (a6:PySem.W.nsIn K mainGlobals "_law_sum"=some (some (.ref f6))) (l6:K.lookup f6=some ⟨oc6,od6,.func (PySem.W.fnOf "_law_sum" "_law_sum" (cW uC) (cJ uC) (aL uC) .none kV6 dc6 pm6 an6 cd6 ct6),sl6⟩) (c6:PySem.W.codeIn K cd6 "_law_sum"=true) (k6:PySem.W.keepIn K (.ref f6)=true)
  (a7:PySem.W.nsIn K mainGlobals "_law_numbers"=some (some (.ref f7))) (l7:K.lookup f7=some ⟨oc7,od7,.func (PySem.W.fnOf "_law_numbers" "_law_numbers" (cW jq) (cJ jq) (aL jq) .none kV7 dc7 pm7 an7 cd7 ct7),sl7⟩) (c7:PySem.W.codeIn K cd7 "_law_numbers"=true) (k7:PySem.W.keepIn K (.ref f7)=true)
  (a8:PySem.W.nsIn K mainGlobals "_law_many"=some (some (.ref f8))) (l8:K.lookup f8=some ⟨oc8,od8,.func (PySem.W.fnOf "_law_many" "_law_many" (cW qb) (cJ qb) (aL qb) .none kV8 dc8 pm8 an8 cd8 ct8),sl8⟩) (c8:PySem.W.codeIn K cd8 "_law_many"=true) (k8:PySem.W.keepIn K (.ref f8)=true)
  (a9:PySem.W.nsIn K mainGlobals "_law_parts"=some (some (.ref f9))) (l9:K.lookup f9=some ⟨oc9,od9,.func (PySem.W.fnOf "_law_parts" "_law_parts" (cW lq) (cJ lq) (aL lq) .none kV9 dc9 pm9 an9 cd9 ct9),sl9⟩) (c9:PySem.W.codeIn K cd9 "_law_parts"=true) (k9:PySem.W.keepIn K (.ref f9)=true)
  (a10:PySem.W.nsIn K mainGlobals "_law_house"=some (some (.ref Zk))) (l10:K.lookup Zk=some ⟨aaU,aaG,.func (PySem.W.fnOf "_law_house" "_law_house" (cW jG) (cJ jG) (aL jG) .none aaV aaW aaX aaH YM aaY),aaP⟩) (YJ:PySem.W.codeIn K YM "_law_house"=true) (k10:PySem.W.keepIn K (.ref Zk)=true)
  (a11:PySem.W.nsIn K mainGlobals "_law_same"=some (some (.ref f11))) (l11:K.lookup f11=some ⟨aaZ,aaI,.func (PySem.W.fnOf "_law_same" "_law_same" (cW lO) (cJ lO) (aL lO) .none aa0 aa1 aa2 aaJ YQ aa3),aaQ⟩) (YK:PySem.W.codeIn K YQ "_law_same"=true) (k11:PySem.W.keepIn K (.ref f11)=true)
  (a12:PySem.W.nsIn K mainGlobals "_law_over"=some (some (.ref Zm))) (l12:K.lookup Zm=some ⟨aa4,aaK,.func (PySem.W.fnOf "_law_over" "_law_over" (cW qe) (cJ qe) (aL qe) .none aa5 aa6 aa7 aaL YS aa8),aaR⟩) (c12:PySem.W.codeIn K YS "_law_over"=true) (k12:PySem.W.keepIn K (.ref Zm)=true)
  (a13:PySem.W.nsIn K mainGlobals "_law_days"=some (some (.ref Zn))) (l13:K.lookup Zn=some ⟨aa9,aaM,.func (PySem.W.fnOf "_law_days" "_law_days" (cW oh) (cJ oh) (aL oh) .none aba abb abd aaN YT abe),aaS⟩) (c13:PySem.W.codeIn K YT "_law_days"=true) (k13:PySem.W.keepIn K (.ref Zn)=true)
  (a14:PySem.W.nsIn K mainGlobals "law"=some (some (.ref f14))) (l14:K.lookup f14=some ⟨abf,aaO,.func (PySem.W.fnOf "law" "law" (cW oR) (cJ oR) (aL oR) .none YW YX YZ YL WK Y0),aaT⟩) (c14:PySem.W.codeIn K WK "law"=true) (k14:PySem.W.keepIn K (.ref f14)=true)
  (zJ:PySem.W.nsIn K mainGlobals "abs"=some none)
  (Ex:PySem.W.nsIn K mainGlobals "all"=some none)
  (qW:PySem.W.nsIn K mainGlobals "bool"=some none)
  (zK:PySem.W.nsIn K mainGlobals "int"=some none)
  (bN:PySem.W.nsIn K mainGlobals "isinstance"=some none)
  (m7:PySem.W.nsIn K mainGlobals "len"=some none)
  (pO:PySem.W.nsIn K mainGlobals "list"=some none)
  (xW:PySem.W.nsIn K mainGlobals "max"=some none)
  (Ey:PySem.W.nsIn K mainGlobals "min"=some none)
  (jb:PySem.W.nsIn K mainGlobals "range"=some none)
  (uE:PySem.W.nsIn K mainGlobals "repr"=some none)
  (zL:PySem.W.nsIn K mainGlobals "set"=some none)
  (gP:PySem.W.nsIn K mainGlobals "sorted"=some none)
  (zM:PySem.W.nsIn K mainGlobals "str"=some none)
  (gR:PySem.W.nsIn K mainGlobals "tuple"=some none)
  (Ez:PySem.W.nsIn K mainGlobals "zip"=some none)
  :∃fd:FuncData,(∀(s:Shared) (v:Value),BindsTo s fd ⟨[v],[]⟩ [("_law_script",v)])∧∀base:Heap,K.In base→base.Ns mainGlobals mg→gJ l.prog w K mg base uY 6 fa fd ["_law_script"] (spT K zO):=by
 have e:=hfa.symm.trans (PySem.W.mg_of X G a14)
 cases e
 have T:Txt K mg:=⟨PySem.W.mg_none_of X G zJ,PySem.W.mg_none_of X G Ex,PySem.W.mg_none_of X G qW,PySem.W.mg_none_of X G zK,PySem.W.mg_none_of X G bN,PySem.W.mg_none_of X G m7,PySem.W.mg_none_of X G pO,PySem.W.mg_none_of X G xW,PySem.W.mg_none_of X G Ey,PySem.W.mg_none_of X G jb,PySem.W.mg_none_of X G uE,PySem.W.mg_none_of X G zL,PySem.W.mg_none_of X G gP,PySem.W.mg_none_of X G zM,PySem.W.mg_none_of X G gR,PySem.W.mg_none_of X G Ez⟩
 have F0:=gZ (st:=fL) l0 c0 k0
 have F1:=gZ (st:=jn) l1 c1 k1
 have F2:=gZ (st:=uA) l2 c2 k2
 have F3:=gZ (st:=p7) l3 c3 k3
 have F4:=gZ (st:=iZ) l4 c4 k4
 have F5:=gZ (st:=uB) l5 c5 k5
 have F6:=gZ (st:=uC) l6 c6 k6
 have F7:=gZ (st:=jq) l7 c7 k7
 have F8:=gZ (st:=qb) l8 c8 k8
 have F9:=gZ (st:=lq) l9 c9 k9
 have F10:=gZ (st:=jG) l10 YJ k10
 have F11:=gZ (st:=lO) l11 YK k11
 have F12:=gZ (st:=qe) l12 c12 k12
 have F13:=gZ (st:=oh) l13 c13 k13
 have F14:=gZ (st:=oR) l14 c14 k14
 refine ⟨PySem.W.fnOf "law" "law" (cW oR) (cJ oR) (aL oR) .none YW YX YZ YL WK Y0,fun s v=>.of_eq rfl,fun base _ _=>?_⟩
 have Cg:=yN (P:=l.prog) (w:=w) (mg:=mg) (base:=base) F0 T
 have oH:nA l.prog w K mg base "parts_over" 1 (["house","part"]:List Str) (spT K gC):=⟨f0,_,PySem.W.mg_of X G a0,k0,(F0.binds (ps:=(["house","part"]:List Str)) (fun _ _ _ _ _ _ us hl=>match us,hl with | [_,_],_=>rfl)),Cg⟩
 have Li:=Ht (P:=l.prog) (w:=w) (mg:=mg) (base:=base) F1 T oH
 have nu:nA l.prog w K mg base "rank_of" 2 (["house","person","part","day"]:List Str) (spT K fD):=⟨f1,_,PySem.W.mg_of X G a1,k1,(F1.binds (ps:=(["house","person","part","day"]:List Str)) (fun _ _ _ _ _ _ us hl=>match us,hl with | [_,_,_,_],_=>rfl)),Li⟩
 have WL:=Sg (P:=l.prog) (w:=w) (mg:=mg) (base:=base) F2 T
 have Hu:nA l.prog w K mg base "_law_box" 1 (["_law_script","_law_k"]:List Str) (spT K qX):=⟨f2,_,PySem.W.mg_of X G a2,k2,(F2.binds (ps:=(["_law_script","_law_k"]:List Str)) (fun _ _ _ _ _ _ us hl=>match us,hl with | [_,_],_=>rfl)),WL⟩
 have Tj:=Px (P:=l.prog) (w:=w) (mg:=mg) (base:=base) F3 T
 have aZ:nA l.prog w K mg base "_law_take" 1 (["_law_box_here","_law_many_here"]:List Str) (spT K aM):=⟨f3,_,PySem.W.mg_of X G a3,k3,(F3.binds (ps:=(["_law_box_here","_law_many_here"]:List Str)) (fun _ _ _ _ _ _ us hl=>match us,hl with | [_,_],_=>rfl)),Tj⟩
 have Qi:=K8 (P:=l.prog) (w:=w) (mg:=mg) (base:=base) F4 T aZ
 have yo:nA l.prog w K mg base "_law_names" 2 (["_law_box_here","_law_many_here"]:List Str) (spT K lA):=⟨f4,_,PySem.W.mg_of X G a4,k4,(F4.binds (ps:=(["_law_box_here","_law_many_here"]:List Str)) (fun _ _ _ _ _ _ us hl=>match us,hl with | [_,_],_=>rfl)),Qi⟩
 have WM:=Sh (P:=l.prog) (w:=w) (mg:=mg) (base:=base) F5 T aZ
 have mF:nA l.prog w K mg base "_law_day" 2 (["_law_box_here"]:List Str) (spT K fG):=⟨f5,_,PySem.W.mg_of X G a5,k5,(F5.binds (ps:=(["_law_box_here"]:List Str)) (fun _ _ _ _ _ _ us hl=>match us,hl with | [_],_=>rfl)),WM⟩
 have WN:=Sq (P:=l.prog) (w:=w) (mg:=mg) (base:=base) F6 T aZ
 have BP:nA l.prog w K mg base "_law_sum" 2 (["_law_box_here"]:List Str) (spT K jP):=⟨f6,_,PySem.W.mg_of X G a6,k6,(F6.binds (ps:=(["_law_box_here"]:List Str)) (fun _ _ _ _ _ _ us hl=>match us,hl with | [_],_=>rfl)),WN⟩
 have HH:=EY (P:=l.prog) (w:=w) (mg:=mg) (base:=base) F7 T aZ
 have oJ:nA l.prog w K mg base "_law_numbers" 2 (["_law_box_here","_law_many_here"]:List Str) (spT K fM):=⟨f7,_,PySem.W.mg_of X G a7,k7,(F7.binds (ps:=(["_law_box_here","_law_many_here"]:List Str)) (fun _ _ _ _ _ _ us hl=>match us,hl with | [_,_],_=>rfl)),HH⟩
 have Tn:=Py (P:=l.prog) (w:=w) (mg:=mg) (base:=base) F8 T aZ
 have jV:nA l.prog w K mg base "_law_many" 2 (["_law_box_here","_law_most"]:List Str) (spT K eX):=⟨f8,_,PySem.W.mg_of X G a8,k8,(F8.binds (ps:=(["_law_box_here","_law_most"]:List Str)) (fun _ _ _ _ _ _ us hl=>match us,hl with | [_,_],_=>rfl)),Tn⟩
 have Qj:=K9 (P:=l.prog) (w:=w) (mg:=mg) (base:=base) F9 T aZ jV
 have ym:nA l.prog w K mg base "_law_parts" 3 (["_law_box_here","_law_names_here"]:List Str) (spT K lB):=⟨f9,_,PySem.W.mg_of X G a9,k9,(F9.binds (ps:=(["_law_box_here","_law_names_here"]:List Str)) (fun _ _ _ _ _ _ us hl=>match us,hl with | [_,_],_=>rfl)),Qj⟩
 have Qk:=La (P:=l.prog) (w:=w) (mg:=mg) (base:=base) F10 T aZ mF BP oJ jV ym
 have yp:nA l.prog w K mg base "_law_house" 4 (["_law_box_here","_law_names_here"]:List Str) (spT K lC):=⟨Zk,_,PySem.W.mg_of X G a10,k10,(F10.binds (ps:=(["_law_box_here","_law_names_here"]:List Str)) (fun _ _ _ _ _ _ us hl=>match us,hl with | [_,_],_=>rfl)),Qk⟩
 have sZ:nA l.prog w K mg base "_law_same" 3 (["_law_found","_law_due"]:List Str) (spT K (jc 3)):=zP (PySem.W.mg_of X G a11) k11 (F11.binds (ps:=(["_law_found","_law_due"]:List Str)) (fun _ _ _ _ _ _ us hl=>match us,hl with | [_,_],_=>rfl)) F11 T 3
 have Tp:=PJ (P:=l.prog) (w:=w) (mg:=mg) (base:=base) F12 T
 have BR:nA l.prog w K mg base "_law_over" 1 (["_law_parts_here"]:List Str) (spT K qg):=⟨Zm,_,PySem.W.mg_of X G a12,k12,(F12.binds (ps:=(["_law_parts_here"]:List Str)) (fun _ _ _ _ _ _ us hl=>match us,hl with | [_],_=>rfl)),Tp⟩
 have Tq:=PK (P:=l.prog) (w:=w) (mg:=mg) (base:=base) F13 T mF
 have BV:nA l.prog w K mg base "_law_days" 3 (["_law_box_here","_law_house_here"]:List Str) (spT K oG):=⟨Zn,_,PySem.W.mg_of X G a13,k13,(F13.binds (ps:=(["_law_box_here","_law_house_here"]:List Str)) (fun _ _ _ _ _ _ us hl=>match us,hl with | [_,_],_=>rfl)),Tq⟩
 have o_law:=Wr (P:=l.prog) (w:=w) (mg:=mg) (base:=base) F14 T nu Hu yo yp sZ BR BV
 exact o_law
theorem walk {l:PySem.W.OpenLaw} {q:Program} {loose:List Str} {XP:(Str→Option Value)→Heap→Prop} {YP:World→Heap→Prop} {d:DefRec} {K:Params→PySem.W.Frag} (hn:l.most=some 63) (hdf:d.params.defaults=[])
  (hY:∀(w:World) (h:Heap),YP w h→(K w.params).In h)
  (F:∀(w:World) (mg:Str→Option Value) (fa:Addr) (h:Heap),(K w.params).In h→h.Ns mainGlobals mg→mg d.name=some (.ref fa)→
   ∃fd:FuncData,(∀(s:Shared) (u:Value),BindsTo s fd ⟨[u],[]⟩ [("_law_script",u)])∧∀base:Heap,(K w.params).In base→base.Ns mainGlobals mg→gJ l.prog w (K w.params) mg base uY 6 fa fd ["_law_script"] (spT (K w.params) zO)):
  PySem.W.WalkO q loose XP YP l.row.toRowW d [] (fun f vs=>PySem.call f vs):=
 L2.QZ (n:=63) (k:=6) (x:="_law_script") (CX:=fun _=>uY) (sp:=fun w=>spT (K w.params) zO) hn (by decide) hdf ⟨rfl,by decide,by decide,rfl⟩ hY F (fun _ _ a ns hl _ hS=>let ⟨_,h⟩:=Qh ns hl; Wf hS h) fun _ _ _ _ _ z=>z
end pN
open PySem PySem.W PyProof.Rows
set_option maxRecDepth 100000 in
set_option maxHeartbeats 0 in
theorem PySem.Challenge.cw_rankseals_k05_ranks_held_holds:PySem.Challenge.rw_rankseals_k05_ranks_held.Holds:=by
 w_on; o_law; k_head; (case hw=>w_witness2)
 k_fill
 refine pN.walk (l:=PySem.Challenge.rw_rankseals_k05_ranks_held) rfl rfl (fun w h Y=>PySem.W.kIn_of Y) ?F
 case F=>
  intro w mg fa h KX G hmg
  refine' pN.all_mk KX G hmg ?a0 ?l0 ?c0 ?k0 ?a1 ?l1 ?c1 ?k1 ?a2 ?l2 ?c2 ?k2 ?a3 ?l3 ?c3 ?k3 ?a4 ?l4 ?c4 ?k4 ?a5 ?l5 ?c5 ?k5 ?a6 ?l6 ?c6 ?k6 ?a7 ?l7 ?c7 ?k7 ?a8 ?l8 ?c8 ?k8 ?a9 ?l9 ?c9 ?k9 ?a10 ?l10 ?YJ ?k10 ?a11 ?l11 ?YK ?k11 ?a12 ?l12 ?c12 ?k12 ?a13 ?l13 ?c13 ?k13 ?a14 ?l14 ?c14 ?k14 ?zJ ?Ex ?qW ?zK ?bN ?m7 ?pO ?xW ?Ey ?jb ?uE ?zL ?gP ?zM ?gR ?Ez
  (case a0=>k_is)
  (case l0=>k_is)
  (case c0=>k_is)
  (case k0=>k_is)
  (case a1=>k_is)
  (case l1=>k_is)
  (case c1=>k_is)
  (case k1=>k_is)
  (case a2=>k_is)
  (case l2=>k_is)
  (case c2=>k_is)
  (case k2=>k_is)
  (case a3=>k_is)
  (case l3=>k_is)
  (case c3=>k_is)
  (case k3=>k_is)
  (case a4=>k_is)
  (case l4=>k_is)
  (case c4=>k_is)
  (case k4=>k_is)
  (case a5=>k_is)
  (case l5=>k_is)
  (case c5=>k_is)
  (case k5=>k_is)
  (case a6=>k_is)
  (case l6=>k_is)
  (case c6=>k_is)
  (case k6=>k_is)
  (case a7=>k_is)
  (case l7=>k_is)
  (case c7=>k_is)
  (case k7=>k_is)
  (case a8=>k_is)
  (case l8=>k_is)
  (case c8=>k_is)
  (case k8=>k_is)
  (case a9=>k_is)
  (case l9=>k_is)
  (case c9=>k_is)
  (case k9=>k_is)
  (case a10=>k_is)
  (case l10=>k_is)
  (case YJ=>k_is)
  (case k10=>k_is)
  (case a11=>k_is)
  (case l11=>k_is)
  (case YK=>k_is)
  (case k11=>k_is)
  (case a12=>k_is)
  (case l12=>k_is)
  (case c12=>k_is)
  (case k12=>k_is)
  (case a13=>k_is)
  (case l13=>k_is)
  (case c13=>k_is)
  (case k13=>k_is)
  (case a14=>k_is)
  (case l14=>k_is)
  (case c14=>k_is)
  (case k14=>k_is)
  (case zJ=>k_is)
  (case Ex=>k_is)
  (case qW=>k_is)
  (case zK=>k_is)
  (case bN=>k_is)
  (case m7=>k_is)
  (case pO=>k_is)
  (case xW=>k_is)
  (case Ey=>k_is)
  (case jb=>k_is)
  (case uE=>k_is)
  (case zL=>k_is)
  (case gP=>k_is)
  (case zM=>k_is)
  (case gR=>k_is)
  (case Ez=>k_is)
