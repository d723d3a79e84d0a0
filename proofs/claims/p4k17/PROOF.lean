import PyProof.Rows.All
import Wide.All
import OpenK.AllK
import Wide.FinOn
import Lean
import PyProof.EqAt
import PyProof.EqKinds
import PyProof.TupleCall
import PySem.Challenge.RW_rankseals_k17_signers
set_option Elab.async false
set_option linter.all false
set_option maxRecDepth 100000
set_option maxHeartbeats 4000000
set_option autoImplicit true
noncomputable section
namespace L2
open PySem PySem.Spec PyProof.Rows
abbrev Key:=Sum Int Str
def zL:Key→Value→Bool
 | .inl k,v=>Value.isInt k v
 | .inr x,v=>Value.isStrOf x v
def aaQ (w:World):Key→Int
 | .inl k=>hashInt k
 | .inr x=>hashStr w x
theorem cP:∀{k:Key} {v:Value},zL k v=true→(∃i t,k=Sum.inl i∧v=Value.int i t)∨(∃x t,k=Sum.inr x∧v=Value.str x t)
 | .inl i,v,h=>by
  obtain ⟨t,e⟩:=Value.isInt_shape (k:=i) (v:=v) h;exact .inl ⟨i,t,rfl,e⟩
 | .inr x,v,h=>by
  obtain ⟨t,e⟩:=Value.isStrOf_shape (x:=x) (v:=v) h;exact .inr ⟨x,t,rfl,e⟩
theorem Ls (i:Int) (t:Tok):zL (.inl i) (.int i t)=true:=by simp [zL,Value.isInt]
theorem Lw (x:Str) (t:Tok):zL (.inr x) (.str x t)=true:=by simp [zL,Value.isStrOf]
theorem Wg (a b:Int):decide ((Sum.inl a:Key)=Sum.inl b)=(a==b):=by
 by_cases e:a=b
 ·subst e;simp
 ·have h:¬(Sum.inl a:Key)=Sum.inl b:=fun q=>e (Sum.inl.inj q)
  rw [decide_eq_false h];exact (beq_eq_false_iff_ne.mpr e).symm
theorem Wh (a b:Str):decide ((Sum.inr a:Key)=Sum.inr b)=decide (a=b):=by
 by_cases e:a=b
 ·subst e;simp
 ·have h:¬(Sum.inr a:Key)=Sum.inr b:=fun q=>e (Sum.inr.inj q)
  rw [decide_eq_false h,decide_eq_false e]
theorem Wi (a:Int) (b:Str):decide ((Sum.inl a:Key)=Sum.inr b)=false:=decide_eq_false (fun q=>nomatch q)
theorem Wj (a:Str) (b:Int):decide ((Sum.inr a:Key)=Sum.inl b)=false:=decide_eq_false (fun q=>nomatch q)
def cL (prog:Program) (w:World):PySem.KeyKind prog w Key where
 is:=zL
 hash:=aaQ w
 inj:=fun v a b ha hb=>by
  rcases cP ha with ⟨i,t,rfl,rfl⟩ | ⟨x,t,rfl,rfl⟩
  ·rcases cP hb with ⟨j,u,rfl,e⟩ | ⟨y,u,rfl,e⟩
   ·injection e with e1 _;rw [e1]
   ·exact nomatch e
  ·rcases cP hb with ⟨j,u,rfl,e⟩ | ⟨y,u,rfl,e⟩
   ·exact nomatch e
   ·injection e with e1 _;rw [e1]
 byValue:=fun k v h=>by
  rcases cP h with ⟨i,t,rfl,rfl⟩ | ⟨x,t,rfl,rfl⟩ <;> rfl
 pyHash:=fun hv h=>by
  rcases cP hv with ⟨i,t,rfl,rfl⟩ | ⟨x,t,rfl,rfl⟩
  ·exact wpAny_pyHash_int h
  ·exact wpAny_pyHash_str h
 eqBool:=fun hu hv h=>by
  rcases cP hu with ⟨i,t,rfl,rfl⟩ | ⟨x,t,rfl,rfl⟩
  ·rcases cP hv with ⟨j,u,rfl,rfl⟩ | ⟨y,u,rfl,rfl⟩
   ·rw [Wg] at h;exact wpAny_eqBool_int h
   ·rw [Wi] at h;exact SeqAt.EqAt.int_str i t y u _ _ _ _ h
  ·rcases cP hv with ⟨j,u,rfl,rfl⟩ | ⟨y,u,rfl,rfl⟩
   ·rw [Wj] at h;exact SeqAt.EqAt.str_int x t j u _ _ _ _ h
   ·rw [Wh] at h;exact wpAny_eqBool_str h
 «strs»:=fun k x t v h=>by
  rcases cP h with ⟨i,u,rfl,e⟩ | ⟨y,u,rfl,e⟩
  ·exact nomatch e
  ·injection e with e1 _
   subst e1;cases v <;> rfl
theorem DK (prog:Program) (w:World) (i:Int) (t:Tok):(cL prog w).is (.inl i) (.int i t)=true:=Ls i t
theorem DN (prog:Program) (w:World) (x:Str) (t:Tok):(cL prog w).is (.inr x) (.str x t)=true:=Lw x t
inductive V where
 | non | bl (b:Bool) | int (i:Int) | str (x:Str) | Lx (b:Array UInt8) | flt (b:UInt64) | ref (a:Addr) | ty (n:String)
 deriving DecidableEq
def RelV:V→Value→Prop
 | .non,u=>u=Value.none
 | .bl b,u=>u=Value.bool b
 | .int i,u=>∃t,u=Value.int i t
 | .str x,u=>∃t,u=Value.str x t
 | .Lx b,u=>∃t,u=Value.bytes b t
 | .flt b,u=>∃t,u=Value.float b t
 | .ref a,u=>u=Value.ref a
 | .ty n,u=>u=Value.type n
abbrev Vals:List V→List Value→Prop:=Paired RelV
theorem Vals.length {xs:List V} {us:List Value} (r:Vals xs us):xs.length=us.length:=Paired.length r
theorem Vals.get:∀{xs:List V} {us:List Value} {i:Nat} {x:V},Vals xs us→xs[i]?=some x→∃u,us[i]?=some u∧RelV x u
 | _,_,_,_,.nil,e=>by simp at e
 | _,_,0,_,.cons r _,e=>by simp at e;subst e;exact ⟨_,rfl,r⟩
 | _,_,i + 1,x,.cons _ t,e=>by
  obtain ⟨u,h1,h2⟩:=Vals.get (i:=i) (x:=x) t (by simpa using e);exact ⟨u,by simpa using h1,h2⟩
theorem Vals.set {x:V} {u:Value} (r:RelV x u):∀{xs:List V} {us:List Value} (i:Nat),Vals xs us→Vals (xs.set i x) (us.set i u)
 | _,_,_,.nil=>.nil
 | _,_,0,.cons _ t=>.cons r t
 | _,_,i + 1,.cons q t=>.cons q (Vals.set r i t)
theorem Vals.append:∀{xs ys:List V} {us ws:List Value},Vals xs us→Vals ys ws→Vals (xs++ys) (us++ws)
 | _,_,_,_,.nil,s=>s
 | _,_,_,_,.cons r t,s=>.cons r (Vals.append t s)
theorem Vals.take:∀{xs:List V} {us:List Value} (n:Nat),Vals xs us→Vals (xs.take n) (us.take n)
 | _,_,0,_=>.nil
 | _,_,_ + 1,.nil=>.nil
 | _,_,n + 1,.cons r t=>.cons r (Vals.take n t)
theorem Vals.drop:∀{xs:List V} {us:List Value} (n:Nat),Vals xs us→Vals (xs.drop n) (us.drop n)
 | _,_,0,r=>r
 | _,_,_ + 1,.nil=>.nil
 | _,_,n + 1,.cons _ t=>Vals.drop n t
def uo:Option V→Option Value→Prop
 | some v,some u=>RelV v u
 | none,none=>True
 | _,_=>False
def KV {κ:Type}:List (κ×V)→List (κ×Value)→Prop:=Paired fun (p:κ×V) (q:κ×Value)=>p.1=q.1∧RelV p.2 q.2
def kV:Key→V
 | .inl i=>.int i
 | .inr x=>.str x
inductive HO where
 | lst (xs:List V)
 | tup (xs:List V)
 | dK (kvs:List (Key×V)) | dT (kvs:List (List Key×V))
 | set (S:Int→Bool) (n:Nat)
 | ins (C dx:Addr) (fs:List (Str×V))
 | own (x:Addr)
 | xd (fs:List (Str×V))
 | met (f x:Addr)
 | rng (lo hi:Int)
 | DG (o:Obj) (u:HO)
 | Wk (ps:Array Value)
 | ext (φ:Heap→Prop)
abbrev Hp:=Addr→Option HO
def upd (H:Hp) (a:Addr) (o:HO):Hp:=fun b=>if b=a then some o else H b
theorem aP {H:Hp} {a:Addr} {o:HO}:upd H a o a=some o:=by unfold upd;rw [if_pos rfl]
theorem aV {H:Hp} {a b:Addr} {o:HO} (h:b≠a):upd H a o b=H b:=by unfold upd;rw [if_neg h]
theorem JM {H:Hp} {a:Addr} {o u:HO}:upd (upd H a o) a u=upd H a u:=by
 funext b;unfold upd;split <;> rfl
theorem Oc {H:Hp} {a b:Addr} {o u:HO} (h:H a=some o) (h':H b=some u) (d:o≠u):a≠b:=by
 intro e;subst e;rw [h] at h';exact d (Option.some.inj h')
theorem cJ {H:Hp} {a b:Addr} {o:HO} (h:H a=some o) (h':H b=none):a≠b:=by
 intro e;subst e;rw [h] at h';cases h'
section
variable (P:Program) (w:World)
def cB (H:Hp) (h:Heap) (a:Addr):HO→Prop
 | .lst xs=>xs.length≤sizeLine∧∃(its:List Value) (n:Nat),Vals xs its∧h.get? a=some { cls:=.type "list",data:=.seq its.toArray n }
 | .tup xs=>xs.length≤sizeLine∧∃its:List Value,Vals xs its∧IsTup h a its.toArray
 | .dK kvs=>kvs.length≤sizeLine∧(a==sysModules)=false∧∃vs,KV kvs vs∧h.DictOf (cL P w) a vs
 | .dT kvs=>kvs.length≤sizeLine∧(a==sysModules)=false∧∃xs:List (List Key×Addr×Value),
   Paired (fun (p:List Key×V) (q:List Key×Addr×Value)=>p.1=q.1∧H q.2.1=some (.tup (p.1.map kV))∧RelV p.2 q.2.2) kvs xs∧
   ∃o es ep,h.get? a=some o∧o.ExactDict∧o.data=.dict es ep∧es.toList=xs.map (entryOfKey (tupleKind (cL P w)))∧(xs.map (·.1)).Nodup
 | .set S n=>h.SetOf (intKind P w) a S n
 | .ins C dx fs=>H dx=some (.own a)∧fs.length≤1000∧dx≠a∧h.get? a=some (PySem.W.instObj C dx)∧
   ∃mA,h.Ns1 dx mA∧(∀f,uo (fs.lookup f) (mA f))∧PySem.Within mA (fs.map (·.1))
 | .own _=>∃o,h.get? a=some o
 | .xd fs=>∃mA,h.Ns1 a mA∧∀f,uo (fs.lookup f) (mA f)
 | .rng lo hi=>∃t u v,h.get? a=some { cls:=.type "range",data:=.fields #[.int lo t,.int hi u,.int 1 v] }
 | .DG o u=>h.get? a=some o∧cB H h a u
 | .Wk ps=>h.get? a=some { cls:=.none,data:=.fields ps }
 | .met f x=>h.get? a=some (PySem.W.methodObj (.ref f) (.ref x))
 | .ext φ=>φ h∧(∃o,h.get? a=some o)∧∀h1 h2:Heap,φ h1→(∀o,h1.get? a=some o→h2.get? a=some o)→φ h2
def rN (H:Hp) (h:Heap):Prop:=∀a o,H a=some o→cB P w H h a o
end
section
variable {P:Program} {w:World} {H H':Hp} {h h':Heap} {a:Addr} {o:HO}
theorem cB.lt (x:cB P w H h a o):a < h.objs.size:=by
 cases o with
 | lst xs=>obtain ⟨_,_,_,_,e⟩:=x;exact Heap.lt_size e
 | tup xs=>obtain ⟨_,_,_,p⟩:=x;exact p.lt
 | dK kvs=>obtain ⟨_,_,_,_,o,_,_,e,_⟩:=x;exact Heap.lt_size e
 | dT kvs=>obtain ⟨_,_,_,_,o,_,_,e,_⟩:=x;exact Heap.lt_size e
 | set S n=>obtain ⟨o,_,_,_,e,_⟩:=x;exact Heap.lt_size e
 | ins C dx fs=>obtain ⟨_,_,_,e,_⟩:=x;exact Heap.lt_size e
 | own y=>obtain ⟨_,e⟩:=x;exact Heap.lt_size e
 | xd fs=>obtain ⟨_,⟨_,_,_,e,_⟩,_⟩:=x;exact Heap.lt_size e
 | rng lo hi=>obtain ⟨_,_,_,e⟩:=x;exact Heap.lt_size e
 | DG ob u=>obtain ⟨e,_⟩:=x;exact Heap.lt_size e
 | Wk ps=>exact Heap.lt_size (show h.get? a=some _ from x)
 | met f y=>exact Heap.lt_size (show h.get? a=some _ from x)
 | ext φ=>obtain ⟨_,⟨_,e⟩,_⟩:=x;exact Heap.lt_size e
theorem Paired.Wl {α β:Type} {F G:α→β→Prop}:∀{l₁:List α} {l₂:List β},Paired F l₁ l₂→(∀a b,F a b→G a b)→Paired G l₁ l₂
 | _,_,.nil,_=>.nil
 | _,_,.cons r t,f=>.cons (f _ _ r) (Paired.Wl t f)
theorem cB.stay (x:cB P w H h a o) (k:∀b u,(b=a∨H b=some (.own a))→h.get? b=some u→h'.get? b=some u)
  (ho:∀b,H b=some (.own a)→H' b=some (.own a)) (ht:∀b xs,H b=some (.tup xs)→H' b=some (.tup xs)):cB P w H' h' a o:=by
 induction o with
 | lst xs=>obtain ⟨z,its,n,r,e⟩:=x;exact ⟨z,its,n,r,k _ _ (.inl rfl) e⟩
 | tup xs=>obtain ⟨z,its,r,ob,e,c⟩:=x;exact ⟨z,its,r,ob,k _ _ (.inl rfl) e,c⟩
 | dK kvs=>obtain ⟨z,y,vs,r,ob,es,ep,e,c⟩:=x;exact ⟨z,y,vs,r,ob,es,ep,k _ _ (.inl rfl) e,c⟩
 | dT kvs=>
  obtain ⟨z,y,xs,r,ob,es,ep,e,c⟩:=x;exact ⟨z,y,xs,Paired.Wl r fun p q z=>⟨z.1,ht _ _ z.2.1,z.2.2⟩,ob,es,ep,k _ _ (.inl rfl) e,c⟩
 | set S n=>obtain ⟨ob,es,ep,t,e,c⟩:=x;exact ⟨ob,es,ep,t,k _ _ (.inl rfl) e,c⟩
 | ins C dx fs=>
  obtain ⟨d,z,ne,e,mA,⟨od,es,ep,e2,c⟩,r⟩:=x;exact ⟨ho _ d,z,ne,k _ _ (.inl rfl) e,mA,⟨od,es,ep,k _ _ (.inr d) e2,c⟩,r⟩
 | own y=>obtain ⟨ob,e⟩:=x;exact ⟨ob,k _ _ (.inl rfl) e⟩
 | xd fs=>obtain ⟨mA,⟨od,es,ep,e,c⟩,r⟩:=x;exact ⟨mA,⟨od,es,ep,k _ _ (.inl rfl) e,c⟩,r⟩
 | rng lo hi=>obtain ⟨t,u,v,e⟩:=x;exact ⟨t,u,v,k _ _ (.inl rfl) e⟩
 | DG ob u ih=>obtain ⟨e,q⟩:=x;exact ⟨k _ _ (.inl rfl) e,ih q⟩
 | Wk ps=>
  have e:h.get? a=some { cls:=.none,data:=.fields ps }:=x;show h'.get? a=some { cls:=.none,data:=.fields ps };exact k a _ (.inl rfl) e
 | met f y=>
  have e:h.get? a=some (PySem.W.methodObj (.ref f) (.ref y)):=x;show h'.get? a=some (PySem.W.methodObj (.ref f) (.ref y));exact k a _ (.inl rfl) e
 | ext φ=>obtain ⟨p,⟨o,e⟩,st⟩:=x;exact ⟨st _ _ p fun o q=>k _ _ (.inl rfl) q,⟨o,k _ _ (.inl rfl) e⟩,st⟩
theorem rN.lt (x:rN P w H h) (e:H a=some o):a < h.objs.size:=(x a o e).lt
theorem rN.fresh (x:rN P w H h) (e:h.objs.size≤a):H a=none:=by
 cases q:H a with
 | none=>rfl
 | some u=>exact absurd (Nat.lt_of_lt_of_le (x.lt q) e) (Nat.lt_irrefl _)
theorem rN.kept (x:rN P w H h) (k:∀b u,h.get? b=some u→h'.get? b=some u):rN P w H h':=fun a o e=>
 (x a o e).stay (fun b u _ q=>k b u q) (fun _ q=>q) fun _ _ q=>q
theorem rN.laid (x:rN P w H h) (k:∀b u,h.get? b=some u→h'.get? b=some u) (hp:h.objs.size≤a) (new:cB P w (upd H a o) h' a o):rN P w (upd H a o) h':=fun b u e=>by
 have hn:=x.fresh hp;by_cases hb:b=a
 ·subst hb;rw [aP] at e;cases e;exact new
 ·rw [aV hb] at e;exact (x b u e).stay (fun c v _ q=>k c v q) (fun c q=>by rw [aV (cJ q hn)];exact q) fun c xs q=>by rw [aV (cJ q hn)];exact q
end
def Rd (H:Hp) (a:Addr) (u:HO):Prop:=H a=some u∨∃o,H a=some (.DG o u)
theorem Rd.of {H:Hp} {a:Addr} {u:HO} (h:H a=some u):Rd H a u:=.inl h
theorem Rd.ok {P:Program} {w:World} {H:Hp} {h:Heap} {a:Addr} {u:HO} (r:Rd H a u) (x:rN P w H h):cB P w H h a u:=by
 rcases r with r | ⟨o,r⟩
 ·exact x a u r
 ·obtain ⟨_,q⟩:=x a _ r;exact q
def YG:Option HO→Prop
 | some (.lst _)=>True
 | some (.dK _)=>True
 | some (.dT _)=>True
 | some (.set _ _)=>True
 | some (.ins _ _ _)=>True
 | some (.ext _)=>True
 | _=>False
section
variable {P:Program} {w:World} {H:Hp} {h h':Heap} {x e:Addr} {o':HO}
theorem rN.write (ok:rN P w H h) (mu:YG (H x)) (he:e=x∨H e=some (.own x)) (k:∀b u,b≠e→h.get? b=some u→h'.get? b=some u) (heo:∃u,h'.get? e=some u)
  (new:cB P w (upd H x o') h' x o'):rN P w (upd H x o') h':=fun b u q=>by
 have YH:∀c y,H c=some (.own y)→c≠x:=fun c y r z=>by subst z;rw [r] at mu;exact mu
 have aaS:∀c xs,H c=some (.tup xs)→c≠x:=fun c xs r z=>by subst z;rw [r] at mu;exact mu
 by_cases hb:b=x
 ·subst hb;rw [aP] at q;cases q;exact new
 ·rw [aV hb] at q;by_cases hbe:b=e
  ·have q':H b=some (.own x):=by
    rcases he with z | z
    ·exact absurd (hbe.trans z) hb
    ·rw [hbe];exact z
   rw [q] at q';cases q';obtain ⟨v,hv⟩:=heo;exact ⟨v,by rw [hbe];exact hv⟩
  ·refine (ok b u q).stay (fun c v hc r=>k c v ?_ r) (fun c r=>by rw [aV (YH c b r)];exact r) fun c xs r=>by rw [aV (aaS c xs r)];exact r
   rcases hc with rfl | hc
   ·exact hbe
   ·rintro rfl;rcases he with z | z
    ·exact YH c b hc z
    ·rw [hc] at z;cases z;exact hb rfl
end
structure Un (fs ex:List Addr) (H H':Hp) (h h':Heap):Prop where
 keep:∀b o,h.get? b=some o→H b=none→b∉fs→b∉ex→h'.get? b=some o
 slot:∀b o,h.get? b=some o→H b=none→b∈fs→b∉ex→∃sl,h'.get? b=some { o with slots:=sl }
 free:∀b o,h.get? b=some o→H b=none→b∉ex→H' b=none
 there:∀b o,h.get? b=some o→b∉ex→∃o',h'.get? b=some o'
 tups:∀b xs,H b=some (.tup xs)→H' b=some (.tup xs)
 uq:∀b o u,H b=some (.DG o u)→H' b=some (.DG o u)
 vG:∀b ps,H b=some (.Wk ps)→∃more,H' b=some (.Wk (ps++more))
section
variable {fs fs' ex ex':List Addr} {H H1 H2:Hp} {h h1 h2 h':Heap} {a x e:Addr} {o:HO}
theorem Un.any (u:Un fs ex H H1 h h1) {b:Addr} {ob:Obj} (q:h.get? b=some ob) (n:H b=none) (hx:b∉ex):∃sl,h1.get? b=some { ob with slots:=sl }:=by
 by_cases hb:b∈fs
 ·exact u.slot b ob q n hb hx
 ·exact ⟨ob.slots,u.keep b ob q n hb hx⟩
theorem Un.trans (a:Un fs ex H H1 h h1) (b:Un fs ex H1 H2 h1 h2):Un fs ex H H2 h h2 where
 keep:=fun c ob q n hc hx=>b.keep c ob (a.keep c ob q n hc hx) (a.free c ob q n hx) hc hx
 slot:=fun c ob q n hc hx=>by
  obtain ⟨sl,e1⟩:=a.slot c ob q n hc hx;obtain ⟨sl',e2⟩:=b.slot c _ e1 (a.free c ob q n hx) hc hx;exact ⟨sl',e2⟩
 free:=fun c ob q n hx=>by
  obtain ⟨o',e1⟩:=a.there c ob q hx;exact b.free c o' e1 (a.free c ob q n hx) hx
 there:=fun c ob q hx=>by
  obtain ⟨o',e1⟩:=a.there c ob q hx;exact b.there c o' e1 hx
 tups:=fun c xs q=>b.tups c xs (a.tups c xs q)
 uq:=fun c ob xs q=>b.uq c ob xs (a.uq c ob xs q)
 vG:=fun c ps q=>by
  obtain ⟨m1,e1⟩:=a.vG c ps q;obtain ⟨m2,e2⟩:=b.vG c _ e1;exact ⟨m1++m2,by rw [e2,Array.append_assoc]⟩
theorem Un.kept (k:∀b u,h.get? b=some u→h'.get? b=some u):Un fs ex H H h h':=
 ⟨fun b ob q _ _ _=>k b ob q,fun b ob q _ _ _=>⟨ob.slots,k b ob q⟩,fun _ _ _ n _=>n,fun b ob q _=>⟨ob,k b ob q⟩,fun _ _ q=>q,fun _ _ _ q=>q,fun _ ps q=>⟨#[],by rw [q];simp⟩⟩
theorem Un.refl:Un fs ex H H h h:=Un.kept fun _ _ q=>q
theorem Un.laid (k:∀b u,h.get? b=some u→h'.get? b=some u) (hp:h.objs.size≤a) (hn:H a=none):Un fs ex H (upd H a o) h h' where
 keep:=fun b u q _ _ _=>k b u q
 slot:=fun b u q _ _ _=>⟨u.slots,k b u q⟩
 free:=fun b u q n _=>by rw [aV (Nat.ne_of_lt (Nat.lt_of_lt_of_le (Heap.lt_size q) hp))];exact n
 there:=fun b u q _=>⟨u,k b u q⟩
 tups:=fun b xs q=>by rw [aV (cJ q hn)];exact q
 uq:=fun b u xs q=>by rw [aV (cJ q hn)];exact q
 vG:=fun b ps q=>⟨#[],by rw [aV (cJ q hn),q];simp⟩
theorem Un.write (mu:YG (H x)) (he:e=x∨H e=some (.own x)) (k:∀b u,b≠e→h.get? b=some u→h'.get? b=some u) (heo:∃u,h'.get? e=some u):Un fs ex H (upd H x o) h h':=by
 have hx:∀b,H b=none→b≠x:=fun b n z=>by subst z;rw [n] at mu;exact mu
 have hb:∀b,H b=none→b≠e:=fun b n z=>by
  subst z;rcases he with r | r
  ·exact hx b n r
  ·rw [n] at r;cases r
 have hm:∀b u,H b=some u→¬YG (some u)→b≠x:=fun b u q nm z=>by subst z;rw [q] at mu;exact nm mu
 refine ⟨fun b u q n _ _=>k b u (hb b n) q,fun b u q n _ _=>⟨u.slots,k b u (hb b n) q⟩,fun b u q n _=>by rw [aV (hx b n)];exact n,fun b u q _=>?_,
  fun b xs q=>by rw [aV (hm b _ q fun z=>z)];exact q,fun b u xs q=>by rw [aV (hm b _ q fun z=>z)];exact q,fun b ps q=>⟨#[],by rw [aV (hm b _ q fun z=>z),q];simp⟩⟩
 by_cases hbe:b=e
 ·subst hbe;exact heo
 ·exact ⟨u,k b u hbe q⟩
theorem Un.mono (u:Un fs ex H H1 h h1) (hs:∀b∈fs,b∈fs') (hx:∀b∈ex,b∈ex'):Un fs' ex' H H1 h h1:=
 ⟨fun b ob q n hb he=>u.keep b ob q n (fun z=>hb (hs b z)) fun z=>he (hx b z),fun _ _ q n _ he=>u.any q n fun z=>he (hx _ z),fun b ob q n he=>u.free b ob q n fun z=>he (hx b z),fun b ob q he=>u.there b ob q fun z=>he (hx b z),u.tups,u.uq,u.vG⟩
end
def trk (h:Heap) (H:Hp):List Addr:=(List.range h.objs.size).filter fun a=>(H a).isSome
def Ao (h:Heap) (H:Hp):Heap:=PySem.W.hideAll h (trk h H)
theorem Ly (h:Heap) (H:Hp):(Ao h H).objs.size=h.objs.size:=PySem.W.hideAll_size _ _
theorem Od {h:Heap} {H:Hp} {b:Addr} {o:Obj} (e:h.get? b=some o) (n:H b=none):(Ao h H).get? b=some o:=
 PySem.W.hideAll_get _ e fun hm=>by
  have q:(H b).isSome=true:=(List.mem_filter.mp hm).2;rw [n] at q;simp at q
theorem SN {h:Heap} {H:Hp} {b:Addr} {o:Obj} (e:(Ao h H).get? b=some o):h.get? b=some o∧H b=none:=by
 have e':h.get? b=some o:=PySem.W.of_hideAll (trk h H) e;refine ⟨e',?_⟩;cases q:H b with
 | none=>rfl
 | some x=>
  have hm:b∈trk h H:=List.mem_filter.mpr ⟨List.mem_range.mpr (Heap.lt_size e'),by simp [q]⟩;have z:(Ao h H).get? b=none:=PySem.W.hideAll_none (trk h H) hm;rw [z] at e;cases e
def SQ (g h:Heap) (L:Addr):List (Addr×Obj):=(List.range h.objs.size).filterMap fun a=>if a=L∨(g.get? a).isSome=true then none else (h.get? a).map fun o=>(a,o)
def rest (g h:Heap) (L d:Addr):List (Addr×Obj):=(SQ g h L).filter fun p=>decide (p.1≠d)
structure Mod (K:PySem.W.Frag) (mg:Str→Option Value) (base:Heap):Prop where
 kin:K.In base
 glob:base.Ns mainGlobals mg
 blt:∃mb,base.Ns builtinsNs mb∧∀x:Str,x≠"__name__"→mb x=bootBuiltins x
 nolimit:base.NoLimit
structure Cx where
 prog:Program
 w:World
 K:PySem.W.Frag
 mg:Str→Option Value
 base:Heap
 A:Around
 N:List Str
 s₀:Shared
 H₀:Hp
 env:Env
 outer:List Env
 stack:List Env
 ex:List Addr
 fn:Str→Bool
 calm:Bool
 pn:List (Addr×Obj)
 xe:Value→Shared→Prop
def frs (l:List Env):List Addr:=l.filterMap (·.frame)
abbrev Cx.fs (X:Cx):List Addr:=frs X.outer
def Vis (sc:Scope) (x:Str):Prop:=sc.names.lookup x=some .local∨sc.names.lookup x=some .cell∨sc.names.lookup x=some .free
def Loc (sc:Scope) (x:Str):Prop:=sc.names.lookup x=some .local∨sc.names.lookup x=some .cell
def Look (env:Env) (h:Heap) (m:Str→Option Value) (x:Str) (u:Value):Prop:=
 (env.kindOf x=some .local∧m x=some u)∨((env.kindOf x=some .cell∨env.kindOf x=some .free)∧∃c,env.cells.lookup x=some c∧h.IsCell c (some u))
structure Cx.Ok (X:Cx):Prop where
 mod:Mod X.K X.mg X.base
 kind:X.env.scope.kind=.function
 glob:X.env.globals=mainGlobals
 blt:X.env.builtins=builtinsNs
 above:X.s₀.heap.objs.size≤X.env.locals
 inj:∀x y c,X.env.cells.lookup x=some c→X.env.cells.lookup y=some c→x=y
 has:∀x,(X.env.kindOf x=some .cell∨X.env.kindOf x=some .free)→∃c,X.env.cells.lookup x=some c
 cab:∀x c,X.fn x=true→X.env.cells.lookup x=some c→X.s₀.heap.objs.size≤c
 hd:X.calm=true→X.A.handled=none
 frames:X.A.frames=some X.stack
 stk:X.stack=X.outer∨(X.stack=X.env::X.outer∧X.env.frame=some X.env.locals)
 exf:∀b∈X.ex,b≠X.env.locals∧∀x c,X.env.cells.lookup x=some c→c≠b
 bs:∀b o,X.base.get? b=some o→X.s₀.heap.get? b=some o∧X.H₀ b=none
 Sv:X.base.objs.size≤X.s₀.heap.objs.size
 Oe:∀b o,X.base.get? b=some o→b∉X.ex
 SX:∀b∈X.ex,b∉X.fs
 vH:X.s₀.heap.FunFrames X.base X.outer
 Wm:∀b∈X.fs,X.H₀ b=none
structure Inv (X:Cx) (pins:List (Addr×Obj)) (σ:List (Option V)) (H:Hp) (s:Shared):Prop where
 ok:X.Ok
 os:s.os=X.s₀.os
 bare:AllBare s.gens
 base:Un X.fs X.ex X.H₀ H X.s₀.heap s.heap
 loc:∃m,s.heap.Ns X.env.locals m∧∀(i:Nat) (x:Str) (v:V),X.N[i]?=some x→σ[i]?=some (some v)→Vis X.env.scope x→∃u,RelV v u∧Look X.env s.heap m x u
 cell:∀x c,X.env.cells.lookup x=some c→∃v,s.heap.IsCell c v
 free:H X.env.locals=none
 oF:∀x c,X.env.cells.lookup x=some c→H c=none
 pin:∀p∈X.pn++pins,s.heap.get? p.1=some p.2∧H p.1=none∧p.1≠X.env.locals∧p.1∉X.fs∧∀v,p.2.data≠.cell v
 hok:rN X.prog X.w H s.heap
 len:σ.length=X.N.length
section
variable {X:Cx} {pins:List (Addr×Obj)} {σ:List (Option V)} {H H':Hp} {s:Shared} {h':Heap}
theorem Cx.Ok.aaU (ok:X.Ok) {b:Addr} {o:Obj} (e:X.base.get? b=some o):b∉X.fs:=fun hb=>by
 have:=(ok.vH.mem hb).1;rw [e] at this;cases this
theorem Inv.bs (I:Inv X pins σ H s):∀b o,X.base.get? b=some o→s.heap.get? b=some o∧H b=none:=fun b o e=>
 ⟨I.base.keep b o (I.ok.bs b o e).1 (I.ok.bs b o e).2 (I.ok.aaU e) (I.ok.Oe b o e),I.base.free b o (I.ok.bs b o e).1 (I.ok.bs b o e).2 (I.ok.Oe b o e)⟩
theorem Inv.bk (I:Inv X pins σ H s):∀b o,X.base.get? b=some o→s.heap.get? b=some o:=fun b o e=>(I.bs b o e).1
theorem Inv.mod (I:Inv X pins σ H s):Mod X.K X.mg X.base:=I.ok.mod
theorem Inv.uh (I:Inv X pins σ H s):X.K.In s.heap:=I.ok.mod.kin.keeps I.bk
theorem Inv.nolimit (I:Inv X pins σ H s):s.heap.NoLimit:=I.ok.mod.nolimit.keeps I.bk
theorem Inv.fr (I:Inv X pins σ H s):∃m,Fr X.base X.env.locals s.heap m:=
 let ⟨m,hn,_⟩:=I.loc
 ⟨m,hn,I.bk,Nat.le_trans I.ok.Sv I.ok.above⟩
theorem Inv.lt (I:Inv X pins σ H s):X.env.locals < s.heap.objs.size:=let ⟨_,hn,_⟩:=I.loc;hn.lt
theorem Inv.sz (I:Inv X pins σ H s):X.s₀.heap.objs.size≤s.heap.objs.size:=Nat.le_trans I.ok.above (Nat.le_of_lt I.lt)
theorem Inv.aaV (I:Inv X pins σ H s) {a:Addr} (h:s.heap.objs.size≤a):a∉X.fs:=fun hb=>by
 obtain ⟨_,o,ho,_⟩:=I.ok.vH.mem hb;exact absurd (Nat.lt_of_lt_of_le (Heap.lt_size ho) (Nat.le_trans I.sz h)) (Nat.lt_irrefl _)
theorem Inv.Wn (I:Inv X pins σ H s):∀x c,X.env.cells.lookup x=some c→c≠X.env.locals:=fun x c e z=>by
 obtain ⟨v,o,ho,hd⟩:=I.cell x c e;obtain ⟨m,⟨o',es,ep,ho',hd',_⟩,_⟩:=I.loc;rw [z,ho'] at ho;cases ho;rw [hd'] at hd;cases hd
theorem Inv.vH (I:Inv X pins σ H s):s.heap.FunFrames X.base X.outer:=by
 have all:∀(l:List Env),(∀b∈frs l,b∈X.fs)→X.s₀.heap.FunFrames X.base l→s.heap.FunFrames X.base l:=by
  intro l;induction l with
  | nil=>intro _ _;trivial
  | cons env r ih=>
   intro hs hl;obtain ⟨hk,⟨L,o,hf,hn,ho,hd⟩,hr⟩:=hl;have hL:L∈X.fs:=hs L (by unfold frs;rw [List.filterMap_cons,hf];exact List.mem_cons_self);obtain ⟨sl,e⟩:=I.base.slot L o ho (I.ok.Wm L hL) hL fun z=>I.ok.SX L z hL
   exact ⟨hk,⟨L,_,hf,hn,e,hd⟩,ih (fun b hb=>hs b (by unfold frs;rw [List.filterMap_cons,hf];exact List.mem_cons_of_mem _ hb)) hr⟩
 exact all X.outer (fun _ hb=>hb) I.ok.vH
theorem Inv.stack (I:Inv X pins σ H s):s.heap.FunFrames X.base X.stack:=by
 rcases I.ok.stk with e | ⟨e,hf⟩
 ·rw [e];exact I.vH
 ·rw [e];obtain ⟨m,hn,_⟩:=I.loc;refine .cons (by rw [I.ok.kind];decide) hf hn ?_ I.vH;exact Heap.get?_none_of_le (Nat.le_trans I.ok.Sv I.ok.above)
theorem Inv.ur (I:Inv X pins σ H s):∀b∈frs X.stack,b∈X.env.locals::X.fs:=fun b hb=>by
 rcases I.ok.stk with e | ⟨e,hf⟩
 ·rw [e] at hb;exact List.mem_cons_of_mem _ hb
 ·rw [e] at hb;unfold frs at hb;rw [List.filterMap_cons,hf] at hb;exact hb
theorem Inv.JN (I:Inv X pins σ H s):∀b∈frs X.stack,H b=none:=fun b hb=>by
 rcases List.mem_cons.mp (I.ur b hb) with e | hb
 ·rw [e];exact I.free
 ·obtain ⟨_,o,ho,_⟩:=I.ok.vH.mem hb;exact I.base.free b o ho (I.ok.Wm b hb) fun z=>I.ok.SX b z hb
theorem Inv.step {g':Array GenState} {t':Nat} {d':Drawn} {ch:List Addr} (I:Inv X pins σ H s)
  (hch:∀b∈ch,(b∈X.ex∨X.s₀.heap.objs.size≤b)∧b≠X.env.locals∧(∀x c,X.env.cells.lookup x=some c→c≠b)∧∀p∈X.pn++pins,p.1≠b)
  (keep:∀b o,b≠X.env.locals→b∉X.fs→b∉ch→s.heap.get? b=some o→H b=none→h'.get? b=some o)
  (slot:∀b o,b≠X.env.locals→b∈X.fs→b∉ch→s.heap.get? b=some o→H b=none→∃sl,h'.get? b=some { o with slots:=sl }) (free:∀b o,b∉ch→s.heap.get? b=some o→H b=none→H' b=none)
  (there:∀b o,b∉ch→s.heap.get? b=some o→∃o',h'.get? b=some o')
  (tups:∀b xs,H b=some (.tup xs)→H' b=some (.tup xs)) (uq:∀b o u,H b=some (.DG o u)→H' b=some (.DG o u)) (vG:∀b ps,H b=some (.Wk ps)→∃more,H' b=some (.Wk (ps++more)))
  (ns:∀m,s.heap.Ns X.env.locals m→h'.Ns X.env.locals m) (hok:rN X.prog X.w H' h') (hg:AllBare g'):
  Inv X pins σ H' { s with heap:=h',gens:=g',drawn:=d',toks:=t' }:=by
 have neL:∀b o,X.s₀.heap.get? b=some o→b≠X.env.locals:=fun b o e=>Nat.ne_of_lt (Nat.lt_of_lt_of_le (Heap.lt_size e) I.ok.above)
 have neC:∀b o,X.s₀.heap.get? b=some o→b∉X.ex→b∉ch:=fun b o e hx hb=>by
  rcases (hch b hb).1 with z | z
  ·exact hx z
  ·exact absurd (Nat.lt_of_lt_of_le (Heap.lt_size e) z) (Nat.lt_irrefl _)
 have cellK:∀x c,X.env.cells.lookup x=some c→∀v,s.heap.IsCell c v→h'.IsCell c v:=fun x c e v aZ=>by
  obtain ⟨o,ho,hd⟩:=aZ;have YJ:c∉ch:=fun z=>(hch c z).2.2.1 x c e rfl
  by_cases hc:c∈X.fs
  ·obtain ⟨sl,q⟩:=slot c o (I.Wn x c e) hc YJ ho (I.oF x c e);exact ⟨_,q,hd⟩
  ·exact ⟨o,keep c o (I.Wn x c e) hc YJ ho (I.oF x c e),hd⟩
 refine ⟨I.ok,I.os,hg,⟨fun b o e n hb hx=>?_,fun b o e n hb hx=>?_,fun b o e n hx=>?_,fun b o e hx=>?_,fun b xs e=>tups b xs (I.base.tups b xs e),fun b o xs e=>uq b o xs (I.base.uq b o xs e),fun b ps e=>?_⟩,?_,fun x c e=>?_,?_,fun x c e=>?_,fun p hp=>?_,hok,I.len⟩
 ·exact keep b o (neL b o e) hb (neC b o e hx) (I.base.keep b o e n hb hx) (I.base.free b o e n hx)
 ·obtain ⟨sl,e1⟩:=I.base.slot b o e n hb hx;obtain ⟨sl',e2⟩:=slot b _ (neL b o e) hb (neC b o e hx) e1 (I.base.free b o e n hx);exact ⟨sl',e2⟩
 ·obtain ⟨o',e1⟩:=I.base.there b o e hx;exact free b o' (neC b o e hx) e1 (I.base.free b o e n hx)
 ·obtain ⟨o',e1⟩:=I.base.there b o e hx;exact there b o' (neC b o e hx) e1
 ·obtain ⟨m1,e1⟩:=I.base.vG b ps e;obtain ⟨m2,e2⟩:=vG b _ e1;exact ⟨m1++m2,by rw [e2,Array.append_assoc]⟩
 ·obtain ⟨m,hn,hl⟩:=I.loc;refine ⟨m,ns m hn,fun i x v e1 e2 e3=>?_⟩;obtain ⟨u,r,l⟩:=hl i x v e1 e2 e3;refine ⟨u,r,?_⟩;rcases l with l | ⟨k,c,e,z⟩
  ·exact .inl l
  ·exact .inr ⟨k,c,e,cellK x c e _ z⟩
 ·obtain ⟨v,z⟩:=I.cell x c e;exact ⟨v,cellK x c e v z⟩
 ·obtain ⟨m,⟨o,_,_,ho,_⟩,_⟩:=I.loc;exact free _ o (fun z=>(hch _ z).2.1 rfl) ho I.free
 ·obtain ⟨v,o,ho,hd⟩:=I.cell x c e;exact free c o (fun z=>(hch c z).2.2.1 x c e rfl) ho (I.oF x c e)
 ·obtain ⟨e,n,ne,nf,d⟩:=I.pin p hp;have YJ:p.1∉ch:=fun z=>(hch p.1 z).2.2.2 p hp rfl
  exact ⟨keep p.1 p.2 ne nf YJ e n,free p.1 p.2 YJ e n,ne,nf,d⟩
theorem Inv.un {t':Nat} (I:Inv X pins σ H s) (u:Un X.fs [] H H' s.heap h') (hok:rN X.prog X.w H' h'):Inv X pins σ H' { s with heap:=h',toks:=t' }:=by
 obtain ⟨m,⟨o,es,ep,ho,r⟩,_⟩:=id I.loc;obtain ⟨sl,hL⟩:=u.any ho I.free (by simp);exact I.step (g':=s.gens) (d':=s.drawn) (ch:=[]) (fun _ z=>nomatch z) (fun b o _ hb _ e n=>u.keep b o e n hb (by simp)) (fun b o _ hb _ e n=>u.slot b o e n hb (by simp)) (fun b o _ e n=>u.free b o e n (by simp)) (fun b o _ e=>u.there b o e (by simp)) u.tups u.uq u.vG (fun m' hm=>by
  obtain ⟨o',es',ep',ho',r'⟩:=hm;rw [ho] at ho';cases ho';exact ⟨_,es',ep',hL,r'⟩) hok I.bare
theorem Inv.call {g':Array GenState} {t':Nat} {d':Drawn} {ch:List Addr} (I:Inv X pins σ H s) (u:Un (frs X.stack) ch H H' s.heap h') (hok:rN X.prog X.w H' h') (hg:AllBare g')
  (hch:∀b∈ch,(b∈X.ex∨X.s₀.heap.objs.size≤b)∧b≠X.env.locals∧(∀x c,X.env.cells.lookup x=some c→c≠b)∧∀p∈X.pn++pins,p.1≠b):
  Inv X pins σ H' { s with heap:=h',gens:=g',drawn:=d',toks:=t' }:=by
 obtain ⟨m,⟨o,es,ep,ho,r⟩,_⟩:=id I.loc;obtain ⟨sl,hL⟩:=u.any ho I.free fun z=>(hch _ z).2.1 rfl
 exact I.step (ch:=ch) hch (fun b o hL hb hc e n=>u.keep b o e n (fun z=>(List.mem_cons.mp (I.ur b z)).elim hL hb) hc) (fun b o _ _ hc e n=>u.any e n hc) (fun b o hc e n=>u.free b o e n hc) (fun b o hc e=>u.there b o e hc) u.tups u.uq u.vG (fun m' hm=>by
  obtain ⟨o',es',ep',ho',r'⟩:=hm;rw [ho] at ho';cases ho';exact ⟨_,es',ep',hL,r'⟩) hok hg
theorem Inv.turned {t':Nat} {it:Addr} (I:Inv X pins σ H s) (k:∀b o,b≠it→s.heap.get? b=some o→h'.get? b=some o) (hn:H it=none) (hL:it≠X.env.locals)
  (h1:it∈X.ex∨X.s₀.heap.objs.size≤it) (h2:∀x c,X.env.cells.lookup x=some c→c≠it) (h3:∀p∈X.pn++pins,p.1≠it):Inv X pins σ H { s with heap:=h',toks:=t' }:=by
 have YK:∀b u,H b=some u→b≠it:=fun b u e z=>by rw [z,hn] at e;cases e
 refine I.step (g':=s.gens) (d':=s.drawn) (ch:=[it]) (fun b hb=>?_) (fun b o _ _ hc e _=>k b o (fun z=>hc (by simp [z])) e) (fun b o _ _ hc e _=>⟨o.slots,k b o (fun z=>hc (by simp [z])) e⟩) (fun _ _ _ _ n=>n)
  (fun b o hc e=>⟨o,k b o (fun z=>hc (by simp [z])) e⟩) (fun _ _ e=>e) (fun _ _ _ e=>e) (fun b ps e=>⟨#[],by rw [e];simp⟩) (fun m hm=>?_) (fun b u e=>?_) I.bare
 ·have e:b=it:=by simpa using hb
  subst e;exact ⟨h1,hL,h2,h3⟩
 ·obtain ⟨o,es,ep,ho,r⟩:=hm;exact ⟨o,es,ep,k _ o (Ne.symm hL) ho,r⟩
 ·refine (I.hok b u e).stay (fun c v hc q=>k c v ?_ q) (fun _ q=>q) fun _ _ q=>q
  rcases hc with z | z
  ·rw [z];exact YK b u e
  ·exact YK c _ z
theorem Inv.tok (I:Inv X pins σ H s) (t:Nat):Inv X pins σ H { s with toks:=t }:=I.un (h':=s.heap) (t':=t) Un.refl I.hok
theorem Inv.kept {t':Nat} (I:Inv X pins σ H s) (k:∀b u,s.heap.get? b=some u→h'.get? b=some u):Inv X pins σ H { s with heap:=h',toks:=t' }:=I.un (Un.kept k) (I.hok.kept k)
theorem Inv.laid {a:Addr} {o:HO} {t':Nat} (I:Inv X pins σ H s) (k:∀b u,s.heap.get? b=some u→h'.get? b=some u) (hp:s.heap.objs.size≤a) (new:cB X.prog X.w (upd H a o) h' a o):
  Inv X pins σ (upd H a o) { s with heap:=h',toks:=t' }:=I.un (Un.laid k hp (I.hok.fresh hp)) (I.hok.laid k hp new)
theorem Inv.write {x e:Addr} {o:HO} {t':Nat} (I:Inv X pins σ H s) (mu:YG (H x)) (he:e=x∨H e=some (.own x)) (k:∀b u,b≠e→s.heap.get? b=some u→h'.get? b=some u) (heo:∃u,h'.get? e=some u)
  (new:cB X.prog X.w (upd H x o) h' x o):Inv X pins σ (upd H x o) { s with heap:=h',toks:=t' }:=I.un (Un.write mu he k heo) (I.hok.write mu he k heo new)
theorem Inv.weak {σ':List (Option V)} (I:Inv X pins σ H s) (hl:σ'.length=σ.length) (w:∀(i:Nat) v,σ'[i]?=some (some v)→σ[i]?=some (some v)):Inv X pins σ' H s:=
 ⟨I.ok,I.os,I.bare,I.base,let ⟨m,hn,hl'⟩:=I.loc;⟨m,hn,fun i x v e1 e2 e3=>hl' i x v e1 (w i v e2) e3⟩,I.cell,I.free,I.oF,I.pin,I.hok,hl.trans I.len⟩
theorem Inv.JP {JQ:List (Addr×Obj)} (I:Inv X pins σ H s) (h:∀p∈JQ,s.heap.get? p.1=some p.2∧H p.1=none∧p.1≠X.env.locals∧p.1∉X.fs∧∀v,p.2.data≠.cell v):Inv X JQ σ H s:=
 ⟨I.ok,I.os,I.bare,I.base,I.loc,I.cell,I.free,I.oF,fun p hp=>(List.mem_append.mp hp).elim (fun z=>I.pin p (List.mem_append_left _ z)) (h p),I.hok,I.len⟩
theorem DP {N:List Str} (hN:N.Nodup) {i j:Nat} {x:Str} (a:N[i]?=some x) (b:N[j]?=some x):i=j:=by
 obtain ⟨h1,e1⟩:=List.getElem?_eq_some_iff.mp a;obtain ⟨h2,e2⟩:=List.getElem?_eq_some_iff.mp b;exact (List.getElem_inj hN).mp (e1.trans e2.symm)
theorem uv {M:Model} {A:Around} {E:Value→Shared→Prop} {i:Nat} {x:Str} {v:V} {u:Value} {Q:Unit→Shared→Prop} (I:Inv X pins σ H s) (hN:X.N.Nodup) (hi:X.N[i]?=some x) (hx:Loc X.env.scope x) (r:RelV v u)
  (h:∀s',Inv X pins (σ.set i (some v)) H s'→(∃a,Heap.SameBut a s.heap s'.heap∧(a=X.env.locals∨X.env.cells.lookup x=some a))→Q () s') (hf:X.fn x=true∨X.env.scope.names.lookup x=some .local:=by first | exact .inl rfl | exact .inr rfl | assumption):wpAny M A (storeName X.env x u) Q E s:=by
 obtain ⟨m,hn,hl⟩:=id I.loc;have hcls:(X.env.scope.kind==.class || (X.env.scope.kind==.module&&X.env.locals != X.env.globals))=false:=by rw [I.ok.kind];rfl
 have hiσ:i < σ.length:=by rw [I.len];exact (List.getElem?_eq_some_iff.mp hi).1
 have Wn:=I.Wn;have tracked:∀{a:Addr} {h':Heap},(∃o,s.heap.get? a=some o∧H a=none)→Heap.SameBut a s.heap h'→rN X.prog X.w H h':=fun {a h'} ha hs b ob e=>by
  obtain ⟨_,_,hfree⟩:=ha;refine (I.hok b ob e).stay (fun c w' hc q=>(hs.2 c ?_).trans q) (fun _ q=>q) fun _ _ q=>q
  rintro rfl;rcases hc with rfl | hc
  ·rw [hfree] at e;cases e
  ·rw [hfree] at hc;cases hc
 rcases hx with hk | hk
 ·refine wpAny_storeName_local hk hn (fun h' hn' hs=>?_) hcls;obtain ⟨oL,_,_,hoL,_⟩:=id hn;refine h _ ⟨I.ok,I.os,I.bare,⟨fun b o e n hb hx=>?_,fun b o e n hb hx=>?_,I.base.free,fun b o e hx=>?_,I.base.tups,I.base.uq,I.base.vG⟩,⟨_,hn',fun j y v' e1 e2 e3=>?_⟩,fun y c e=>?_,I.free,I.oF,fun p hp=>?_,tracked ⟨oL,hoL,I.free⟩ hs,by simpa using I.len⟩ ⟨_,hs,.inl rfl⟩
  ·exact (hs.2 b (Nat.ne_of_lt (Nat.lt_of_lt_of_le (Heap.lt_size e) I.ok.above))).trans (I.base.keep b o e n hb hx)
  ·obtain ⟨sl,e1⟩:=I.base.slot b o e n hb hx;exact ⟨sl,(hs.2 b (Nat.ne_of_lt (Nat.lt_of_lt_of_le (Heap.lt_size e) I.ok.above))).trans e1⟩
  ·obtain ⟨o',e1⟩:=I.base.there b o e hx;exact ⟨o',(hs.2 b (Nat.ne_of_lt (Nat.lt_of_lt_of_le (Heap.lt_size e) I.ok.above))).trans e1⟩
  ·by_cases hj:j=i
   ·subst hj;rw [hi] at e1;cases e1;rw [List.getElem?_set_self hiσ] at e2;cases e2;exact ⟨u,r,.inl ⟨hk,by simp⟩⟩
   ·rw [List.getElem?_set_ne (Ne.symm hj)] at e2;obtain ⟨u',r',q⟩:=hl j y v' e1 e2 e3;refine ⟨u',r',?_⟩;rcases q with ⟨k,e⟩ | ⟨k,c,e,z⟩
    ·refine .inl ⟨k,?_⟩;have:y≠x:=fun e=>hj (DP hN e1 (e ▸ hi))
     simp [this,e]
    ·exact .inr ⟨k,c,e,z.sameBut hs (Wn y c e)⟩
  ·obtain ⟨w',z⟩:=I.cell y c e;exact ⟨w',z.sameBut hs (Wn y c e)⟩
  ·obtain ⟨e,n,ne,nf,d⟩:=I.pin p hp;exact ⟨(hs.2 p.1 ne).trans e,n,ne,nf,d⟩
 ·have hfn:X.fn x=true:=by
   rcases hf with z | z
   ·exact z
   ·rw [z] at hk;cases hk
  obtain ⟨c,hc⟩:=I.ok.has x (.inl hk);obtain ⟨w',z⟩:=I.cell x c hc;refine wpAny_storeName_cell I.ok.kind hk hc z (fun h' hc' hs=>?_);obtain ⟨oc,hoc,aaW⟩:=id z;refine h { s with heap:=h' } ⟨I.ok,I.os,I.bare,⟨fun b o e n hb hx=>?_,fun b o e n hb hx=>?_,I.base.free,fun b o e hx=>?_,I.base.tups,I.base.uq,I.base.vG⟩,⟨m,hn.sameBut hs (Ne.symm (Wn x c hc)),fun j y v' e1 e2 e3=>?_⟩,fun y c' e=>?_,I.free,I.oF,fun p hp=>?_,tracked ⟨oc,hoc,I.oF x c hc⟩ hs,by simpa using I.len⟩ ⟨c,hs,.inr hc⟩
  ·exact (hs.2 b (Nat.ne_of_lt (Nat.lt_of_lt_of_le (Heap.lt_size e) (I.ok.cab x c hfn hc)))).trans (I.base.keep b o e n hb hx)
  ·obtain ⟨sl,e1⟩:=I.base.slot b o e n hb hx;exact ⟨sl,(hs.2 b (Nat.ne_of_lt (Nat.lt_of_lt_of_le (Heap.lt_size e) (I.ok.cab x c hfn hc)))).trans e1⟩
  ·obtain ⟨o',e1⟩:=I.base.there b o e hx;exact ⟨o',(hs.2 b (Nat.ne_of_lt (Nat.lt_of_lt_of_le (Heap.lt_size e) (I.ok.cab x c hfn hc)))).trans e1⟩
  ·by_cases hj:j=i
   ·subst hj;rw [hi] at e1;cases e1;rw [List.getElem?_set_self hiσ] at e2;cases e2;exact ⟨u,r,.inr ⟨.inl hk,c,hc,hc'⟩⟩
   ·rw [List.getElem?_set_ne (Ne.symm hj)] at e2;obtain ⟨u',r',q⟩:=hl j y v' e1 e2 e3;refine ⟨u',r',?_⟩;rcases q with q | ⟨k,c',e,z'⟩
    ·exact .inl q
    ·refine .inr ⟨k,c',e,z'.sameBut hs ?_⟩;rintro rfl;exact hj (DP hN e1 (I.ok.inj _ _ _ e hc ▸ hi))
  ·by_cases hcc:c'=c
   ·subst hcc;exact ⟨_,hc'⟩
   ·obtain ⟨w2,z2⟩:=I.cell y c' e;exact ⟨w2,z2.sameBut hs hcc⟩
  ·obtain ⟨e,n,ne,nf,d⟩:=I.pin p hp;refine ⟨(hs.2 p.1 ?_).trans e,n,ne,nf,d⟩;intro q;rw [q,hoc] at e;have q':oc=p.2:=Option.some.inj e;exact d w' (by rw [←q'];exact aaW)
theorem fK {M:Model} {A:Around} {E:Value→Shared→Prop} {i:Nat} {x:Str} {v:V} {u:Value} {Q:Unit→Shared→Prop} (I:Inv X pins σ H s) (hN:X.N.Nodup) (hi:X.N[i]?=some x) (hx:Loc X.env.scope x) (r:RelV v u)
  (h:∀s',Inv X pins (σ.set i (some v)) H s'→Q () s') (hf:X.fn x=true∨X.env.scope.names.lookup x=some .local:=by first | exact .inl rfl | exact .inr rfl | assumption):wpAny M A (storeName X.env x u) Q E s:=
 uv I hN hi hx r (fun s' I' _=>h s' I') hf
theorem Inv.call' {s':Shared} {ch:List Addr} (I:Inv X pins σ H s) (ho:s'.os=s.os) (u:Un (frs X.stack) ch H H' s.heap s'.heap) (hok:rN X.prog X.w H' s'.heap) (hg:AllBare s'.gens)
  (hch:∀b∈ch,(b∈X.ex∨X.s₀.heap.objs.size≤b)∧b≠X.env.locals∧(∀x c,X.env.cells.lookup x=some c→c≠b)∧∀p∈X.pn++pins,p.1≠b):Inv X pins σ H' s':=by
 obtain ⟨h',g',d',t',o'⟩:=s';have e:o'=s.os:=ho;subst e;exact I.call (g':=g') (t':=t') (d':=d') u hok hg hch
end
abbrev XK:=Value→Option Addr→Hp→Prop
abbrev St:=List (Option V)
abbrev VK:=V→Hp→Prop
abbrev TE:=St→Hp→VK→Prop
abbrev TT:=St→Hp→(Bool→Hp→Prop)→Prop
abbrev TA:=St→Hp→(List V→Hp→Prop)→Prop
structure Ends where
 nx:St→Hp→Prop
 rt:VK
 bk:St→Hp→Prop:=fun _ _=>False
 ct:St→Hp→Prop:=fun _ _=>False
abbrev TS:=Ends→St→Hp→Prop
def EP (X:Cx) (pins:List (Addr×Obj)) (σ:St) (Q:VK) (u:Value) (s':Shared):Prop:=∃v H',Inv X pins σ H' s'∧RelV v u∧Q v H'
def TP (X:Cx) (pins:List (Addr×Obj)) (σ:St) (Q:Bool→Hp→Prop) (b:Bool) (s':Shared):Prop:=∃H',Inv X pins σ H' s'∧Q b H'
def AP (X:Cx) (pins:List (Addr×Obj)) (σ:St) (Q:List V→Hp→Prop) (us:List Value) (s':Shared):Prop:=∃vs H',Inv X pins σ H' s'∧Vals vs us∧Q vs H'
def SP (X:Cx) (pins:List (Addr×Obj)) (D:Ends) (f:Flow) (s':Shared):Prop:=
 match f with
 | .next=>∃σ' H',Inv X pins σ' H' s'∧D.nx σ' H'
 | .brk=>∃σ' H',Inv X pins σ' H' s'∧D.bk σ' H'
 | .cont=>∃σ' H',Inv X pins σ' H' s'∧D.ct σ' H'
 | .ret u=>∃v σ' H',Inv X pins σ' H' s'∧RelV v u∧D.rt v H'
def PE (X:Cx) (e:Expr) (t:TE):Prop:=
 ∀(pins:List (Addr×Obj)) (s:Shared) (σ:St) (H:Hp) (Q:VK),Inv X pins σ H s→t σ H Q→wpAny (model X.prog X.w) X.A (eval e X.env) (EP X pins σ Q) X.xe s
def PT (X:Cx) (e:Expr) (t:TT):Prop:=
 ∀(pins:List (Addr×Obj)) (s:Shared) (σ:St) (H:Hp) (Q:Bool→Hp→Prop),Inv X pins σ H s→t σ H Q→wpAny (model X.prog X.w) X.A (isTrue e X.env (eval e X.env)) (TP X pins σ Q) X.xe s
def PW (X:Cx) (e:Expr) (t:TT):Prop:=
 ∀(whole:Sem Value) (pins:List (Addr×Obj)) (s:Shared) (σ:St) (H:Hp) (Q:Bool→Hp→Prop),Inv X pins σ H s→t σ H Q→wpAny (model X.prog X.w) X.A (isTrue e X.env whole) (TP X pins σ Q) X.xe s
theorem PW.pt {X:Cx} {e:Expr} {t:TT} (h:PW X e t):PT X e t:=h _
def PA (X:Cx) (es:List Expr) (t:TA):Prop:=
 ∀(pos:Pos) (pins:List (Addr×Obj)) (s:Shared) (σ:St) (H:Hp) (Q:List V→Hp→Prop),Inv X pins σ H s→t σ H Q→wpAny (model X.prog X.w) X.A (spliced (backTo pos (starEach es X.env))) (AP X pins σ Q) X.xe s
def PS (X:Cx) (st:Stmt) (t:TS):Prop:=
 ∀(pins:List (Addr×Obj)) (s:Shared) (σ:St) (H:Hp) (D:Ends),Inv X pins σ H s→t D σ H→wpAny (model X.prog X.w) X.A (exec st X.env) (SP X pins D) X.xe s
def vI (X:Cx) (st:List Stmt) (t:TS):Prop:=
 ∀(pins:List (Addr×Obj)) (s:Shared) (σ:St) (H:Hp) (D:Ends),Inv X pins σ H s→t D σ H→wpAny (model X.prog X.w) X.A (execs st X.env) (SP X pins D) X.xe s
theorem cX {α:Type} {t:Sem α} {Q Q':α→Shared→Prop} {M:Model} {A:Around} {E:Value→Shared→Prop} {s:Shared} (h:wpAny M A t Q E s) (hQ:∀a s,Q a s→Q' a s):wpAny M A t Q' E s:=wpAny_mono h hQ fun _ _ x=>x
section
variable {X:Cx}
def wF (i:Nat):TE:=fun σ H Q=>∃v,σ[i]?=some (some v)∧Q v H
def tC (v:V):TE:=fun _ H Q=>Q v H
theorem Wo {i:Nat} {x:Str} {pos:Pos} (hN:X.N[i]?=some x) (hv:Vis X.env.scope x) (hd:(x==("__debug__":Str))=false:=by decide) (hcd:(x==("__classdict__":Str))=false:=by decide):PE X (.Name x pos) (wF i):=by
 intro pins s σ H Q I h;obtain ⟨v,e,h⟩:=h;obtain ⟨m,hn,hl⟩:=I.loc;obtain ⟨u,r,l⟩:=hl i x v hN e hv;have fin:EP X pins σ Q u s:=⟨v,H,I,r,h⟩
 rcases l with ⟨hk,hm⟩ | ⟨hk,c,hc,hcell⟩
 ·exact wpAny_Name (wpAny_loadName_local I.ok.kind hk hn hm fin) hd
 ·rcases hk with hk | hk
  ·exact wpAny_Name (wpAny_loadName_cell I.ok.kind hk hc hcell fin) hd
  ·exact wpAny_Name (wpAny_loadName_free I.ok.kind hk hc hcell fin hcd) hd
theorem aC {i j pos}:PE X (.Constant (.int i) j pos) (tC (.int i)):=fun _ _ _ H _ I h=>wpAny_Constant_int ⟨.int i,H,I.tok _,⟨_,rfl⟩,h⟩
theorem zM {b j pos}:PE X (.Constant (.bool b) j pos) (tC (.bl b)):=fun _ _ _ H _ I h=>Constant_bool ⟨.bl b,H,I,rfl,h⟩
theorem Aq {j pos}:PE X (.Constant .none j pos) (tC .non):=fun _ _ _ H _ I h=>Constant_none ⟨.non,H,I,rfl,h⟩
theorem uw {x j pos}:PE X (.Constant (.str x) j pos) (tC (.str x)):=fun _ _ _ H _ I h=>Calls.Constant_str ⟨.str x,H,I.tok _,⟨_,rfl⟩,h⟩
def Gl (X:Cx) (x:Str):Prop:=X.env.kindOf x=some .globalImplicit
theorem S7 {E:Value→Shared→Prop} {pins:List (Addr×Obj)} {s:Shared} {σ:St} {H:Hp} {x:Str} {u:Value} {pos:Pos} {Q:Value→Shared→Prop} (I:Inv X pins σ H s) (hg:Gl X x) (hm:X.mg x=some u) (h:Q u s)
  (hd:(x==("__debug__":Str))=false:=by decide):wpAny (model X.prog X.w) X.A (eval (.Name x pos) X.env) Q E s:=
 Calls.Name_function_global I.ok.kind hg (Calls.loadGlobal_global (by rw [I.ok.glob];exact I.mod.glob.keeps I.bk) hm h) hd
theorem mQ {E:Value→Shared→Prop} {pins:List (Addr×Obj)} {s:Shared} {σ:St} {H:Hp} {x:Str} {u:Value} {pos:Pos} {Q:Value→Shared→Prop} (I:Inv X pins σ H s) (hg:Gl X x) (hm:X.mg x=none) (hv:bootBuiltins x=some u) (h:Q u s)
  (hn:x≠"__name__":=by decide) (hd:(x==("__debug__":Str))=false:=by decide):wpAny (model X.prog X.w) X.A (eval (.Name x pos) X.env) Q E s:=by
 obtain ⟨mb,h1,h2⟩:=I.mod.blt;exact Calls.Name_function_global I.ok.kind hg (Calls.loadGlobal_builtin (by rw [I.ok.glob];exact I.mod.glob.keeps I.bk) hm (by rw [I.ok.blt];exact h1.keeps I.bk) ((h2 x hn).trans hv) h) hd
theorem fB {x:Str} {v:V} {u:Value} {pos:Pos} (hg:Gl X x) (hm:X.mg x=none) (hv:bootBuiltins x=some u) (r:RelV v u) (hn:x≠"__name__":=by decide) (hd:(x==("__debug__":Str))=false:=by decide):PE X (.Name x pos) (tC v):=
 fun _ _ _ H _ I h=>mQ I hg hm hv ⟨v,H,I,r,h⟩ hn hd
variable {a b:Expr} {ta tb:TE} {pos:Pos}
def tB (t:TE):TT:=fun σ H Q=>t σ H fun x H1=>∃c,x=.bl c∧Q c H1
variable {tA tB':TT} {rest:List Expr}
def YL (t u:TT):TT:=fun σ H Q=>t σ H fun c H1=>if c=true then u σ H1 Q else Q false H1
def tOr (t u:TT):TT:=fun σ H Q=>t σ H fun c H1=>if c=true then Q true H1 else u σ H1 Q
def aaX (t:TT):TT:=fun σ H Q=>t σ H fun c H1=>Q (!c) H1
theorem pw_and1 (ha:PT X a tA):PW X (.BoolOp .And [a] pos) tA:=by
 intro wh pins s σ H Q I h;refine isTrue_and (cX (ha pins s σ H Q I h) fun c s1 e=>?_);cases c with
 | true=>exact isTrue_and_nil e
 | false=>exact e
theorem pw_or1 (ha:PT X a tA):PW X (.BoolOp .Or [a] pos) tA:=by
 intro wh pins s σ H Q I h;refine isTrue_or (cX (ha pins s σ H Q I h) fun c s1 e=>?_);cases c with
 | false=>exact isTrue_or_nil e
 | true=>exact e
theorem pw_and (ha:PT X a tA) (hb:PW X (.BoolOp .And (b::rest) pos) tB'):PW X (.BoolOp .And (a::b::rest) pos) (YL tA tB'):=by
 intro wh pins s σ H Q I h;refine isTrue_and (cX (ha pins s σ H _ I h) fun c s1 aZ=>?_);obtain ⟨H1,I1,q1⟩:=aZ;cases c with
 | true=>exact hb wh pins s1 σ H1 Q I1 q1
 | false=>exact ⟨H1,I1,q1⟩
theorem pw_or (ha:PT X a tA) (hb:PW X (.BoolOp .Or (b::rest) pos) tB'):PW X (.BoolOp .Or (a::b::rest) pos) (tOr tA tB'):=by
 intro wh pins s σ H Q I h;refine isTrue_or (cX (ha pins s σ H _ I h) fun c s1 aZ=>?_);obtain ⟨H1,I1,q1⟩:=aZ;cases c with
 | true=>exact ⟨H1,I1,q1⟩
 | false=>exact hb wh pins s1 σ H1 Q I1 q1
theorem Wq (ha:PT X a tA):PT X (.UnaryOp .Not a pos) (aaX tA):=by
 intro pins s σ H Q I h;exact isTrue_not (ha pins s σ H (fun c H1=>Q (!c) H1) I h)
def YM (ta tb:TE):TE:=fun σ H Q=>ta σ H fun x H1=>∃c,x=.bl c∧if c=true then tb σ H1 Q else Q (.bl false) H1
def YQ (ta:TE):TE:=fun σ H Q=>ta σ H fun x H1=>∃c,x=.bl c∧Q (.bl (!c)) H1
theorem Wr {op} {t:TE} (h:PE X a t):PE X (.BoolOp op [a] pos) t:=fun pins s σ H Q I hw=>BoolOp_one (h pins s σ H Q I hw)
theorem Ws (ha:PE X a ta) (hb:PE X (.BoolOp .And (b::rest) pos) tb):PE X (.BoolOp .And (a::b::rest) pos) (YM ta tb):=by
 intro pins s σ H Q I h;refine BoolOp_and (cX (ha pins s σ H _ I h) fun v s1 aZ=>?_);obtain ⟨x,H1,I1,r1,q1⟩:=aZ;obtain ⟨c,rfl,q1⟩:=q1;cases r1;refine wpAny_truthy_bool ?_;cases c with
 | true=>exact hb pins s1 σ H1 Q I1 q1
 | false=>exact ⟨.bl false,H1,I1,rfl,q1⟩
theorem Wt (ha:PE X a ta):PE X (.UnaryOp .Not a pos) (YQ ta):=by
 intro pins s σ H Q I h;refine UnaryOp_ (cX (ha pins s σ H _ I h) fun v s1 aZ=>?_);obtain ⟨x,H1,I1,r1,q1⟩:=aZ;obtain ⟨c,rfl,q1⟩:=q1;cases r1;exact not_of (wpAny_truthy_bool ⟨.bl (!c),H1,I1,rfl,q1⟩)
def tIf (t:TT) (ta tb:TE):TE:=fun σ H Q=>t σ H fun c H1=>if c=true then ta σ H1 Q else tb σ H1 Q
theorem Og {c:Expr} (hc:PT X c tA) (ha:PE X a ta) (hb:PE X b tb):PE X (.IfExp c a b pos) (tIf tA ta tb):=by
 intro pins s σ H Q I h;refine wpAny_IfExp (cX (hc pins s σ H _ I h) fun d s1 aZ=>?_);obtain ⟨H1,I1,q1⟩:=aZ;cases d with
 | true=>exact ha pins s1 σ H1 Q I1 q1
 | false=>exact hb pins s1 σ H1 Q I1 q1
end
def di (K:PySem.W.Frag) (H:Hp) (a:Addr) (xs:List V):Prop:=
 Rd H a (.lst xs)∨
  ∃(o:Obj) (its:Array Value) (n:Nat),K.lookup a=some o∧o.cls=.type "list"∧o.dict=none∧o.data=.seq its n∧its.size≤sizeLine∧Vals xs its.toList
def jD (K:PySem.W.Frag) (H:Hp) (a:Addr) (xs:List V):Prop:=
 Rd H a (.tup xs)∨
  ∃(o:Obj) (its:Array Value) (n:Nat),K.lookup a=some o∧o.cls=.type "tuple"∧o.data=.seq its n∧its.size≤sizeLine∧Vals xs its.toList
def aaY:Value→Option V
 | .none=>some .non
 | .bool b=>some (.bl b)
 | .int i _=>some (.int i)
 | .str x _=>some (.str x)
 | .bytes b _=>some (.Lx b)
 | .float b _=>some (.flt b)
 | .ref a=>some (.ref a)
 | .type n=>some (.ty n)
 | _=>none
theorem RelV.abs {x:V} {u:Value} (r:RelV x u):aaY u=some x:=by
 cases x with
 | non=>cases r;rfl
 | bl _=>cases r;rfl
 | int _=>obtain ⟨t,rfl⟩:=r;rfl
 | str _=>obtain ⟨t,rfl⟩:=r;rfl
 | Lx _=>obtain ⟨t,rfl⟩:=r;rfl
 | flt _=>obtain ⟨t,rfl⟩:=r;rfl
 | ref _=>cases r;rfl
 | ty _=>cases r;rfl
theorem RelV.inj {x y:V} {u:Value} (r:RelV x u) (q:RelV y u):x=y:=Option.some.inj (r.abs.symm.trans q.abs)
theorem Vals.inj:∀{xs ys:List V} {us:List Value},Vals xs us→Vals ys us→xs=ys
 | _,_,_,.nil,.nil=>rfl
 | _,_,_,.cons r t,.cons r' t'=>by rw [r.inj r',Vals.inj t t']
section
variable {X:Cx} {pins:List (Addr×Obj)} {σ:St} {H:Hp} {s:Shared} {a:Addr} {xs ys:List V}
theorem di.of {K:PySem.W.Frag} (h:H a=some (.lst xs)):di K H a xs:=.inl (.inl h)
theorem jD.of {K:PySem.W.Frag} (h:H a=some (.tup xs)):jD K H a xs:=.inl (.inl h)
theorem Inv.list (I:Inv X pins σ H s) (h:di X.K H a xs):∃its:List Value,Vals xs its∧PlainL s.heap a its.toArray∧xs.length≤sizeLine:=by
 rcases h with h | ⟨o,its,n,hk,hc,hd,hs,hz,r⟩
 ·obtain ⟨z,its,n,r,e⟩:=h.ok I.hok;exact ⟨its,r,⟨_,n,e,rfl,rfl,rfl⟩,z⟩
 ·refine ⟨its.toList,r,⟨o,n,I.uh a o hk,hc,hd,by simpa using hs⟩,?_⟩;have e:=r.length;simp only [Array.length_toList] at e;omega
theorem Inv.tuple (I:Inv X pins σ H s) (h:jD X.K H a xs):∃its:List Value,Vals xs its∧IsTup s.heap a its.toArray∧xs.length≤sizeLine:=by
 rcases h with h | ⟨o,its,n,hk,hc,hs,hz,r⟩
 ·obtain ⟨z,its,r,p⟩:=h.ok I.hok;exact ⟨its,r,p,z⟩
 ·refine ⟨its.toList,r,⟨o,I.uh a o hk,hc,n,by simpa using hs⟩,?_⟩;have e:=r.length;simp only [Array.length_toList] at e;omega
theorem Inv.rQ (I:Inv X pins σ H s) (h:di X.K H a xs) (h':di X.K H a ys):xs=ys:=by
 obtain ⟨its,r,⟨o,n,e,_,_,d⟩,_⟩:=I.list h;obtain ⟨its',r',⟨o',n',e',_,_,d'⟩,_⟩:=I.list h';rw [e] at e';cases e';rw [d] at d';injection d' with d1 _
 have:its=its':=by simpa using congrArg Array.toList d1
 subst this;exact r.inj r'
theorem Inv.Lz (I:Inv X pins σ H s) (h:jD X.K H a xs) (h':jD X.K H a ys):xs=ys:=by
 obtain ⟨its,r,⟨o,e,_,n,d⟩,_⟩:=I.tuple h;obtain ⟨its',r',⟨o',e',_,n',d'⟩,_⟩:=I.tuple h';rw [e] at e';cases e';rw [d] at d';injection d' with d1 _
 have:its=its':=by simpa using congrArg Array.toList d1
 subst this;exact r.inj r'
end
abbrev Cx.wish (X:Cx) (E:Value→Shared→Prop):Cx:={ X with xe:=E }
abbrev Cx.S8 (X:Cx):Cx:=X.wish fun _ _=>False
theorem Cx.Ok.wish {X:Cx} (ok:X.Ok) (E:Value→Shared→Prop):(X.wish E).Ok:=
 ⟨ok.mod,ok.kind,ok.glob,ok.blt,ok.above,ok.inj,ok.has,ok.cab,ok.hd,ok.frames,ok.stk,ok.exf,ok.bs,ok.Sv,ok.Oe,ok.SX,ok.vH,ok.Wm⟩
theorem Cx.Ok.lA {X:Cx} {E:Value→Shared→Prop} (ok:(X.wish E).Ok):X.Ok:=
 ⟨ok.mod,ok.kind,ok.glob,ok.blt,ok.above,ok.inj,ok.has,ok.cab,ok.hd,ok.frames,ok.stk,ok.exf,ok.bs,ok.Sv,ok.Oe,ok.SX,ok.vH,ok.Wm⟩
section
variable {X:Cx} {pins:List (Addr×Obj)} {σ:St} {H:Hp} {s:Shared} {E:Value→Shared→Prop}
theorem Inv.wish (I:Inv X pins σ H s) (E:Value→Shared→Prop):Inv (X.wish E) pins σ H s:=⟨I.ok.wish E,I.os,I.bare,I.base,I.loc,I.cell,I.free,I.oF,I.pin,I.hok,I.len⟩
theorem Inv.lA (I:Inv (X.wish E) pins σ H s):Inv X pins σ H s:=⟨I.ok.lA,I.os,I.bare,I.base,I.loc,I.cell,I.free,I.oF,I.pin,I.hok,I.len⟩
theorem SP.lA {D:Ends} {f:Flow} {s':Shared} (h:SP (X.wish E) pins D f s'):SP X pins D f s':=by
 cases f with
 | next=>obtain ⟨σ',H',I,q⟩:=h;exact ⟨σ',H',I.lA,q⟩
 | brk=>obtain ⟨σ',H',I,q⟩:=h;exact ⟨σ',H',I.lA,q⟩
 | cont=>obtain ⟨σ',H',I,q⟩:=h;exact ⟨σ',H',I.lA,q⟩
 | ret u=>obtain ⟨v,σ',H',I,r,q⟩:=h;exact ⟨v,σ',H',I.lA,r,q⟩
theorem PE.S8 {e:Expr} {t:TE} (h:PE X.S8 e t):PE X e t:=fun pins s σ H Q I hw=>
 wpAny_mono (h pins s σ H Q (I.wish _) hw) (fun _ _ ⟨v,H',I',r,q⟩=>⟨v,H',I'.lA,r,q⟩) fun _ _ z=>False.elim z
theorem PT.S8 {e:Expr} {t:TT} (h:PT X.S8 e t):PT X e t:=fun pins s σ H Q I hw=>
 wpAny_mono (h pins s σ H Q (I.wish _) hw) (fun _ _ ⟨H',I',q⟩=>⟨H',I'.lA,q⟩) fun _ _ z=>False.elim z
theorem vI.S8 {st:List Stmt} {t:TS} (h:vI X.S8 st t):vI X st t:=fun pins s σ H D I hw=>
 wpAny_mono (h pins s σ H D (I.wish _) hw) (fun _ _ q=>q.lA) fun _ _ z=>False.elim z
end
section
variable {X:Cx} {st:Stmt} {rest:List Stmt} {t u:TS} {e:Expr} {te:TE} {pos:Pos}
def YS:TS:=fun D σ H=>D.nx σ H
def YT (t u:TS):TS:=fun D σ H=>t { D with nx:=u D } σ H
theorem S9:vI X [] YS:=fun _ _ σ H _ I h=>wpAny_execs_nil ⟨σ,H,I,h⟩
theorem Oh (h1:PS X st t) (h2:vI X rest u):vI X (st::rest) (YT t u):=by
 intro pins s σ H D I h;refine wpAny_execs_cons (cX (h1 pins s σ H { D with nx:=u D } I h) fun f s1 q=>?_);cases f with
 | next=>
  obtain ⟨σ',H',I',q⟩:=q;exact h2 pins s1 σ' H' D I' q
 | ret v=>exact q
 | brk=>exact q
 | cont=>exact q
theorem Tc (h1:PS X st t):vI X [st] t:=by
 intro pins s σ H D I h;refine wpAny_execs_cons (cX (h1 pins s σ H D I h) fun f s1 q=>?_);cases f with
 | next=>exact wpAny_execs_nil q
 | ret v=>exact q
 | brk=>exact q
 | cont=>exact q
theorem Inv.quiet {pins:List (Addr×Obj)} {σ:St} {H:Hp} {s:Shared} (I:Inv X pins σ H s):interactive X.env=false:=by simp [interactive,I.ok.kind]
def YW (te:TE):TS:=fun D σ H=>te σ H fun _ H1=>D.nx σ H1
theorem JR (he:PE X e te) (hs:swapsWith e none pos.line X.env=pure false:=by rfl):PS X (.Expr e pos) (YW te):=by
 intro pins s σ H D I h;exact wpAny_Expr_any (cX (he pins s σ H _ I h) fun v s1 ⟨x,H1,I1,r1,q1⟩=>⟨σ,H1,I1,q1⟩) I.quiet hs
def aaZ (te:TE):TS:=fun D σ H=>te σ H D.rt
theorem Oi (he:PE X e te):PS X (.Return (some e) pos) (aaZ te):=by
 intro pins s σ H D I h;exact wpAny_Return_some (cX (he pins s σ H _ I h) fun v s1 ⟨x,H1,I1,r1,q1⟩=>⟨x,σ,H1,I1,r1,q1⟩)
def aa0 (c:TT) (t u:TS):TS:=fun D σ H=>c σ H fun b H1=>if b=true then t D σ H1 else u D σ H1
theorem YX {c:Expr} {a b:List Stmt} {tc:TT} (hc:PT X c tc) (ha:vI X a t) (hb:vI X b u):PS X (.If c a b pos) (aa0 tc t u):=by
 intro pins s σ H D I h;refine wpAny_If (cX (hc pins s σ H _ I h) fun d s1 aZ=>?_);obtain ⟨H1,I1,q1⟩:=aZ;cases d with
 | true=>exact ha pins s1 σ H1 D I1 q1
 | false=>exact hb pins s1 σ H1 D I1 q1
end
abbrev TG:=V→St→Hp→(St→Hp→Prop)→Prop
abbrev Oj:=List V→St→Hp→(St→Hp→Prop)→Prop
def PG (X:Cx) (target:Expr) (t:TG):Prop:=
 ∀(pins:List (Addr×Obj)) (s:Shared) (σ:St) (H:Hp) (v:V) (u:Value) (Q:St→Hp→Prop),Inv X pins σ H s→RelV v u→t v σ H Q→
  wpAny (model X.prog X.w) X.A (assign target X.env u) (fun _ s'=>∃σ' H',Inv X pins σ' H' s'∧Q σ' H') X.xe s
def PGs (X:Cx) (ts:List Expr) (t:Oj):Prop:=
 ∀(pins:List (Addr×Obj)) (s:Shared) (σ:St) (H:Hp) (vs:List V) (us:List Value) (Q:St→Hp→Prop),Inv X pins σ H s→Vals vs us→t vs σ H Q→
  wpAny (model X.prog X.w) X.A (assignInOrder ((assignEach ts X.env).map (·.2)) us) (fun _ s'=>∃σ' H',Inv X pins σ' H' s'∧Q σ' H') X.xe s
abbrev Td:=V→V→V→Hp→(Hp→Prop)→Prop
def Ar (X:Cx) (t:Td):Prop:=
 ∀(pins:List (Addr×Obj)) (s:Shared) (σ:St) (H:Hp) (o i v:V) (ov iv u:Value) (Q:Hp→Prop),Inv X pins σ H s→RelV o ov→RelV i iv→RelV v u→t o i v H Q→
  wpAny (model X.prog X.w) X.A (setItem ov iv u) (fun _ s'=>∃H',Inv X pins σ H' s'∧Q H') X.xe s
abbrev TIp:=V→V→Hp→VK→Prop
def PIp (X:Cx) (op:Operator) (t:TIp):Prop:=
 ∀(pins:List (Addr×Obj)) (s:Shared) (σ:St) (H:Hp) (x y:V) (v u:Value) (Q:VK),Inv X pins σ H s→RelV x v→RelV y u→t x y H Q→
  wpAny (model X.prog X.w) X.A (inplaceOp op v u) (EP X pins σ Q) X.xe s
section
variable {X:Cx} {pos:Pos}
def u9 (i:Nat):TG:=fun v σ H Q=>Q (σ.set i (some v)) H
theorem cz {i:Nat} {x:Str} (hN:X.N.Nodup) (hi:X.N[i]?=some x) (hx:Loc X.env.scope x) (hf:X.fn x=true∨X.env.scope.names.lookup x=some .local:=by first | exact .inl rfl | exact .inr rfl | assumption):PG X (.Name x pos) (u9 i):=by
 intro pins s σ H v u Q I r h;exact wpAny_assign_Name (fK I hN hi hx r (fun s' I'=>⟨_,H,I',h⟩) hf)
def Wu:Oj:=fun vs σ H Q=>vs=[]∧Q σ H
def Ol (t:TG) (u:Oj):Oj:=fun vs σ H Q=>∃v r,vs=v::r∧t v σ H fun σ' H'=>u r σ' H' Q
theorem rR:PGs X [] Wu:=by
 intro pins s σ H vs us Q I r h;obtain ⟨e,h⟩:=h;subst e;cases r;exact assignInOrder_nil ⟨σ,H,I,h⟩
theorem dj {e:Expr} {es:List Expr} {t:TG} {u:Oj} (h1:PG X e t) (h2:PGs X es u)
  (hs:(assignEach (e::es) X.env).map (·.2)=assign e X.env::(assignEach es X.env).map (·.2):=by rfl):PGs X (e::es) (Ol t u):=by
 intro pins s σ H vs us Q I r h;obtain ⟨v,vr,e1,h⟩:=h;subst e1;cases r with
 | cons r rr=>
  rw [hs];refine assignInOrder_cons (cX (h1 pins s σ H _ _ _ I r h) fun _ s1 aZ=>?_);obtain ⟨σ1,H1,I1,q1⟩:=aZ;exact h2 pins s1 σ1 H1 _ _ Q I1 rr q1
def Wv (K:PySem.W.Frag) (n:Nat) (t:Oj):TG:=fun v σ H Q=>∃a xs,v=.ref a∧jD K H a xs∧xs.length=n∧t xs σ H Q
theorem wG {es:List Expr} {k:Nat} {t:Oj} {n:Nat} (hc:X.calm=true) (h:PGs X es t)
  (hn:(assignEach es X.env).length=n:=by rfl) (hst:(assignEach es X.env).findIdx? (·.1)=none:=by rfl):PG X (.Tuple es k pos) (Wv X.K n t):=by
 intro pins s σ H v u Q I r hw;obtain ⟨a,xs,e1,hq,hl,hw⟩:=hw;subst e1;cases r;obtain ⟨its,rv,ht,hz⟩:=I.tuple hq;refine assign_Tuple_tuple (I.ok.hd hc) ht (by simp [hn,←hl,rv.length]) hst fun h' hx=>?_
 have I1:Inv X pins σ H { s with heap:=h' }:=I.kept (t':=s.toks) fun b o e=>hx b o (Nat.ne_of_lt (Heap.lt_size e)) e
 exact h pins _ σ H xs _ Q I1 (by simpa using rv) hw
def aa1 (to ti:TE) (t:Td):TG:=fun v σ H Q=>to σ H fun o H1=>ti σ H1 fun i H2=>t o i v H2 fun H3=>Q σ H3
theorem Ww {o i:Expr} {to ti:TE} {t:Td} (ho:PE X o to) (hi:PE X i ti) (hs:Ar X t)
  (ha:∀v,assign (.Subscript o i pos) X.env v=(do
   let ov ←holding [v] (eval o X.env)
   let iv ←holding [v,ov] (eval i X.env)
   standAt pos
   holding [v,ov,iv] (setItem ov iv v)
   release [v,ov,iv] []):=by intro _;rfl):PG X (.Subscript o i pos) (aa1 to ti t):=by
 intro pins s σ H v u Q I r h;rw [ha];refine wpAny_bind (wpAny_holding (cX (ho pins s σ H _ I h) fun ov s1 aZ=>?_));obtain ⟨x,H1,I1,r1,q1⟩:=aZ;refine wpAny_bind (wpAny_holding (cX (hi pins s1 σ H1 _ I1 q1) fun iv s2 aZ=>?_));obtain ⟨y,H2,I2,r2,q2⟩:=aZ;refine wpAny_bind (wpAny_standAt (wpAny_bind (wpAny_holding (cX (hs pins s2 σ H2 x y v ov iv u _ I2 r1 r2 r q2) fun _ s3 aZ=>?_))));obtain ⟨H3,I3,q3⟩:=aZ;exact wpAny_release ⟨σ,H3,I3,q3⟩
def LC (te:TE) (g:TG):TS:=fun D σ H=>te σ H fun x H1=>g x σ H1 D.nx
theorem Hl {tg e:Expr} {te:TE} {g:TG} (he:PE X e te) (hg:PG X tg g) (hs:swapsWithSole [tg] e pos.line X.env=pure false:=by rfl) (hw:swappedStores [tg] e X.env=pure none:=by rfl)
  (h1:(assignEach [tg] X.env).map (·.2)=[assign tg X.env]:=by rfl):PS X (.Assign [tg] e pos) (LC te g):=by
 intro pins s σ H D I h;refine wpAny_Assign_stores (cX (he pins s σ H _ I h) fun v s1 aZ=>?_) hs hw;obtain ⟨x,H1,I1,r1,q1⟩:=aZ;rw [h1];exact cX (hg pins s1 σ H1 x v _ I1 r1 q1) fun _ s2 q=>q
theorem Om {i:Nat} {x:Str} {e:Expr} {te:TE} {pos':Pos} (hN:X.N.Nodup) (hi:X.N[i]?=some x) (hx:Loc X.env.scope x) (he:PE X e te) (hs:swapsWith e (some (.Name x pos')) pos.line X.env=pure false:=by rfl) (hf:X.fn x=true∨X.env.scope.names.lookup x=some .local:=by first | exact .inl rfl | exact .inr rfl | assumption):
  PS X (.Assign [.Name x pos'] e pos) (LC te (u9 i)):=by
 intro pins s σ H D I h;refine wpAny_Assign_Name (cX (he pins s σ H _ I h) fun v s1 aZ=>?_) hs;obtain ⟨y,H1,I1,r1,q1⟩:=aZ;exact fK I1 hN hi hx r1 (fun s2 I2=>⟨_,H1,I2,q1⟩) hf
def aa2 (i j:Nat) (ta:TA):TS:=fun D σ H=>ta σ H fun vs H1=>∃v w,vs=[v,w]∧D.nx ((σ.set i (some v)).set j (some w)) H1
theorem Wx {i j:Nat} {x y:Str} {a b:Expr} {ta:TA} {px py pt:Pos} {kt k2 Ho} (hc:X.calm=true) (hN:X.N.Nodup) (hi:X.N[i]?=some x) (hj:X.N[j]?=some y) (hij:i≠j)
  (hx:X.env.scope.names.lookup x=some .local) (hy:X.env.scope.names.lookup y=some .local) (ha:PA X [a,b] ta)
  (hw:swappedStores [.Tuple [.Name x px,.Name y py] kt pt] (.Tuple [a,b] k2 Ho) X.env=pure (some [x,y]))
  (hs:swapsWithSole [.Tuple [.Name x px,.Name y py] kt pt] (.Tuple [a,b] k2 Ho) pos.line X.env=pure false:=by rfl):
  PS X (.Assign [.Tuple [.Name x px,.Name y py] kt pt] (.Tuple [a,b] k2 Ho) pos) (aa2 i j ta):=by
 intro pins s σ H D I h;rw [exec_Assign_arm];refine wpAny_bind (wpAny_standAt ?_);rw [hs];refine wpAny_bind (wpAny_pure ?_);rw [if_neg (by decide)];refine wpAny_bind (Tuple_ (cX (ha _ pins s σ H _ I h) fun us s1 aZ=>?_));obtain ⟨vs,H1,I1,r1,q1⟩:=aZ;obtain ⟨v,w,e1,q1⟩:=q1;subst e1;obtain ⟨u1,u2,rfl,rv,rw'⟩:∃u1 u2,us=[u1,u2]∧RelV v u1∧RelV w u2:=by
  cases r1 with
  | cons p q=>
   cases q with
   | cons p' q'=>
    cases q';exact ⟨_,_,rfl,p,p'⟩
 refine wpAny_newObj_type ?_ (by show 2≤sizeLine;decide);have I2:Inv X pins σ H1 { s1 with heap:=s1.heap.push { cls:=.type "tuple",data:=.seq [u1,u2].toArray } }:=I1.kept (t':=s1.toks) fun b o e=>Heap.get?_push_of_some _ e
 rw [hw];refine wpAny_bind (wpAny_pure ?_);show wpAny (model X.prog X.w) X.A (do rule "assign.swapped-stores";let items ←unpackItems (.ref s1.heap.objs.size) 2 none;assignInOrder [fun v=>bindName X.env y v,fun v=>bindName X.env x v] items.reverse;pure Flow.next) _ _ _;refine wpAny_bind (wpAny_rule (wpAny_bind (unpackItems_tuple (items:=#[u1,u2]) (I.ok.hd hc) (IsTup.new s1.heap _) fun h' hx'=>?_)));have I3:=I2.kept (h':=h') (t':=s1.toks) fun b o e=>hx' b o (Nat.ne_of_lt (Heap.lt_size e)) e
 show wpAny _ _ (assignInOrder [fun v=>bindName X.env y v,fun v=>bindName X.env x v] [u2,u1] >>= fun _=>pure Flow.next) _ _ _;refine wpAny_bind (assignInOrder_cons (wpAny_bindName (fK I3 hN hj (.inl hy) rw' (fun s2 I4=>?_) (.inr hy))));refine assignInOrder_cons (wpAny_bindName (fK I4 hN hi (.inl hx) rv (fun s3 I5=>assignInOrder_nil (wpAny_pure ?_)) (.inr hx)));rw [List.set_comm _ _ (Ne.symm hij)] at I5;exact ⟨_,H1,I5,q1⟩
def aa3 (i:Nat) (te:TE) (ti:TIp):TS:=fun D σ H=>∃x,σ[i]?=some (some x)∧te σ H fun y H1=>ti x y H1 fun z H2=>D.nx (σ.set i (some z)) H2
theorem Wy {i:Nat} {x:Str} {e:Expr} {te:TE} {op:Operator} {ti:TIp} {pos':Pos} (hN:X.N.Nodup) (hi:X.N[i]?=some x) (hx:Loc X.env.scope x) (he:PE X e te) (ho:PIp X op ti) (hf:X.fn x=true∨X.env.scope.names.lookup x=some .local:=by first | exact .inl rfl | exact .inr rfl | assumption):
  PS X (.AugAssign (.Name x pos') op e pos) (aa3 i te ti):=by
 intro pins s σ H D I h;obtain ⟨v,e1,h⟩:=h;obtain ⟨m,hn,hl⟩:=I.loc;have vis:Vis X.env.scope x:=by rcases hx with k | k;exact .inl k;exact .inr (.inl k)
 obtain ⟨u,r,l⟩:=hl i x v hi e1 vis;refine wpAny_AugAssign_Name ?_;have go:wpAny (model X.prog X.w) X.A (eval e X.env) (fun w s₂=>wpAny (model X.prog X.w) X.A (inplaceOp op u w) (fun r s₃=>wpAny (model X.prog X.w) X.A (storeName X.env x r) (fun _=>SP X pins D .next) X.xe s₃) X.xe s₂) X.xe s:=by
  refine cX (he pins s σ H _ I h) fun w s1 aZ=>?_
  obtain ⟨y,H1,I1,r1,q1⟩:=aZ;refine cX (ho pins s1 σ H1 v y u w _ I1 r r1 q1) fun z s2 aZ=>?_
  obtain ⟨zv,H2,I2,r2,q2⟩:=aZ;exact fK I2 hN hi hx r2 (fun s3 I3=>⟨_,H2,I3,q2⟩) hf
 rcases l with ⟨hk,hm⟩ | ⟨hk,c,hc,hcell⟩
 ·exact wpAny_loadName_local I.ok.kind hk hn hm go
 ·rcases hk with hk | hk
  ·exact wpAny_loadName_cell I.ok.kind hk hc hcell go
  ·rcases hx with k | k
   ·have:X.env.scope.names.lookup x=some .free:=hk;rw [k] at this;cases this
   ·have:X.env.scope.names.lookup x=some .free:=hk;rw [k] at this;cases this
def ipI (f:Int→Int→Int):TIp:=fun x y H Q=>∃i j,x=.int i∧y=.int j∧Q (.int (f i j)) H
theorem Wz:PIp X .Add (ipI fun i j=>i + j):=by
 intro pins s σ H x y v u Q I r1 r2 h;obtain ⟨i,j,e1,e2,q⟩:=h;subst e1;subst e2;obtain ⟨t,rfl⟩:=r1;obtain ⟨t',rfl⟩:=r2;exact iadd_int ⟨.int _,H,I.tok _,⟨_,rfl⟩,q⟩
end
section
variable {X:Cx} {pos:Pos}
def Oo (c:TT) (tb:TS):TS:=fun D σ H=>∃W:Nat→St→Hp→Prop,(∃m,W m σ H)∧∀m σ H,W m σ H→
 c σ H fun b H1=>if b=true then ∃N:St→Hp→Prop,(∀σ' H',N σ' H'→∃m',m' < m∧W m' σ' H')∧tb { D with nx:=N,ct:=N,bk:=D.nx } σ H1 else D.nx σ H1
theorem Oq {c:Expr} {body:List Stmt} {tc:TT} {tb:TS} (hp:PassesOwn (model X.prog X.w) X.A X.env X.xe) (hc:PT X c tc) (hb:vI X body tb):PS X (.While c body [] pos) (Oo tc tb):=by
 intro pins s σ H D I h;obtain ⟨W,⟨m0,w0⟩,turn⟩:=h;refine wpAny_While (codeAny_whileLoop (fun n s'=>∃σ' H',Inv X pins σ' H' s'∧W n σ' H') ?_ m0 ⟨σ,H,I,w0⟩);rintro n s1 ⟨σ1,H1,I1,w1⟩;refine wpAny_passesOwn hp (cX (hc pins s1 σ1 H1 _ I1 (turn n σ1 H1 w1)) fun b s2 aZ=>?_);obtain ⟨H2,I2,q2⟩:=aZ;cases b with
 | true=>
  obtain ⟨N,hN,q2⟩:=q2;rw [if_pos rfl];refine wpAny_passesOwn hp (cX (hb pins s2 σ1 H2 _ I2 q2) fun f s3 q3=>?_);cases f with
  | next=>
   obtain ⟨σ3,H3,I3,n3⟩:=q3;obtain ⟨m',hm,w3⟩:=hN σ3 H3 n3;exact ⟨m',hm,σ3,H3,I3,w3⟩
  | cont=>
   obtain ⟨σ3,H3,I3,n3⟩:=q3;obtain ⟨m',hm,w3⟩:=hN σ3 H3 n3;exact ⟨m',hm,σ3,H3,I3,w3⟩
  | brk=>exact q3
  | ret v=>exact q3
 | false=>
  rw [if_neg Bool.false_ne_true];exact wpAny_execs_nil ⟨σ1,H2,I2,q2⟩
end
structure It where
 go:Nat→Hp→Prop
 Vx:Nat→Hp→V→Hp→Prop
 stop:Nat→Hp→Prop
def j6 (X:Cx) (pins:List (Addr×Obj)) (H:Hp) (b:Addr):Prop:=
 H b=none∧b≠X.env.locals∧b∉X.fs∧(b∈X.ex∨X.s₀.heap.objs.size≤b)∧(∀x c,X.env.cells.lookup x=some c→c≠b)∧∀p∈X.pn++pins,p.1≠b
theorem Inv.Av {X:Cx} {pins:List (Addr×Obj)} {σ:St} {H H':Hp} {s:Shared} {b:Addr} (I:Inv X pins σ H s) (hb:s.heap.objs.size≤b) (hn:H' b=none):j6 X pins H' b:=by
 refine ⟨hn,Nat.ne_of_gt (Nat.lt_of_lt_of_le I.lt hb),I.aaV hb,.inr (Nat.le_trans I.sz hb),fun x c e z=>?_,fun p hp z=>?_⟩
 ·obtain ⟨v,q⟩:=I.cell x c e;exact absurd (Nat.lt_of_lt_of_le q.lt (by rw [z];exact hb)) (Nat.lt_irrefl _)
 ·exact absurd (Nat.lt_of_lt_of_le (Heap.lt_size (I.pin p hp).1) (by rw [z];exact hb)) (Nat.lt_irrefl _)
structure Turn (P:Program) (w:World) (K:PySem.W.Frag) (tg:Expr) (J:It) (fp:List Addr) (it:Addr) (tn:Nat→Heap→Prop):Prop where
 mem:it∈fp
 obj:∀i h,tn i h→∀b∈fp,∃o,h.get? b=some o∧∀v,o.data≠.cell v
 keep:∀i h h',tn i h→(∀b∈fp,∀o,h.get? b=some o→h'.get? b=some o)→tn i h'
 item:∀(X:Cx),X.prog=P→X.w=w→X.K=K→X.calm=true→∀(i:Nat) (pins:List (Addr×Obj)) (s:Shared) (σ:St) (H:Hp) (E:Value→Shared→Prop),Inv X pins σ H s→(∀b∈fp,j6 X pins H b)→tn i s.heap→J.go i H→
  wpAny (model P w) X.A (pyNext (.ref it)) (fun r s1=>∃u,r=some u∧
   wpAny (model P w) X.A (letOwnedTupleGo tg (.ref it) u) (fun _ s2=>∃x H',Inv X pins σ H' s2∧RelV x u∧J.Vx i H x H'∧tn (i + 1) s2.heap∧∀b∈fp,H' b=none) E s1) E s
 done:∀(X:Cx),X.prog=P→X.w=w→X.K=K→X.calm=true→∀(i:Nat) (pins:List (Addr×Obj)) (s:Shared) (σ:St) (H:Hp) (E:Value→Shared→Prop),Inv X pins σ H s→(∀b∈fp,j6 X pins H b)→tn i s.heap→J.stop i H→
  wpAny (model P w) X.A (pyNext (.ref it)) (fun r s1=>r=none∧Inv X pins σ H s1) E s
 self:∀(A:Around) (i:Nat) (s:Shared) (Q:Value→Shared→Prop) (E:Value→Shared→Prop),tn i s.heap→Q (.ref it) s→wpAny (model P w) A (pyIter (.ref it)) Q E s
abbrev TI:=St→Hp→(It→Hp→Prop)→Prop
def PIE (X:Cx) (pins:List (Addr×Obj)) (σ:St) (tg:Expr) (R:It→Hp→Prop) (itv:Value) (s2:Shared):Prop:=
 ∃(it:Addr) (fp:List Addr) (tn:Nat→Heap→Prop) (J:It) (H':Hp),itv=.ref it∧Inv X pins σ H' s2∧Turn X.prog X.w X.K tg J fp it tn∧tn 0 s2.heap∧(∀b∈fp,j6 X pins H' b)∧R J H'
def PI (X:Cx) (tg iter:Expr) (wi:TI):Prop:=
 ∀(pins:List (Addr×Obj)) (s:Shared) (σ:St) (H:Hp) (R:It→Hp→Prop),Inv X pins σ H s→wi σ H R→
  wpAny (model X.prog X.w) X.A (eval iter X.env) (fun v s1=>wpAny (model X.prog X.w) X.A (pyIter v) (PIE X pins σ tg R) X.xe s1) X.xe s
theorem Ot {M:Model} {A:Around} {E:Value→Shared→Prop} {s:Shared} {tg:Expr} {it:Addr} {u:Value} {o:Obj} {n:String} {vs:Array Value} {Q:Unit→Shared→Prop} (ho:s.heap.get? it=some o) (hc:o.cls=.type n) (hd:o.data=.fields vs)
  (hn:["enumerate","zip","dict_itemiterator","dict_reverseitemiterator","odict_iterator","itertools.zip_longest","itertools.pairwise"].contains n=false) (hQ:Q () s):wpAny M A (letOwnedTupleGo tg (.ref it) u) Q E s:=by
 unfold letOwnedTupleGo;cases tg <;> first
  | exact wpAny_pure hQ
  | (cases u <;> first
    | exact wpAny_pure hQ
    | (refine wpAny_bind (wpAny_load ho ?_)
       rw [hc,hd];show wpAny M A (if (["enumerate","zip","dict_itemiterator","dict_reverseitemiterator","odict_iterator","itertools.zip_longest","itertools.pairwise"].contains n&&vs[0]?==some (rawInt _))=true then _ else _) Q E s;rw [if_neg (by intro h;rw [hn,Bool.false_and] at h;cases h)];exact wpAny_pure hQ))
def Itl (K:PySem.W.Frag) (a:Addr):It:=
 ⟨fun i H=>∃xs x,di K H a xs∧xs[i]?=some x,fun i H x H'=>H'=H∧∀xs,di K H a xs→xs[i]?=some x,fun i H=>∃xs,di K H a xs∧xs.length≤i⟩
def Itt (K:PySem.W.Frag) (a:Addr):It:=
 ⟨fun i H=>∃xs x,jD K H a xs∧xs[i]?=some x,fun i H x H'=>H'=H∧∀xs,jD K H a xs→xs[i]?=some x,fun i H=>∃xs,jD K H a xs∧xs.length≤i⟩
def YZ (lo:Int) (n:Nat):It:=⟨fun i _=>i < n,fun i H x H'=>H'=H∧x=.int (lo + i),fun i _=>n≤i⟩
theorem LK {P:Program} {w:World} {K:PySem.W.Frag} {tg:Expr} (a it:Addr):Turn P w K tg (Itl K a) [it] it (fun i h=>h.IsListIter it a i) where
 mem:=by simp
 obj:=fun i h st b hb=>by
  have e:b=it:=by simpa using hb
  subst e;obtain ⟨o,e,c,d⟩:=st;exact ⟨o,e,fun v z=>by rw [d] at z;cases z⟩
 keep:=fun i h h' st k=>st.at fun o e=>k it (by simp) o e
 item:=by
  intro X hP hw hK hc i pins s σ H E I hf st hg;subst hP hw hK;obtain ⟨xs,x,hq,hx⟩:=hg;obtain ⟨its,rv,p,hz⟩:=I.list hq;obtain ⟨u,hu,ru⟩:=rv.get hx;obtain ⟨f0,f1,f2,f3,f4,f5⟩:=hf it (by simp);refine wpAny_pyNext_list_item st p.isList (x:=u) (by simpa using hu) fun h' st' sb=>?_
  have I1:Inv X pins σ H { s with heap:=h' }:=I.turned (t':=s.toks) (fun b o hb e=>(sb.2 b hb).trans e) f0 f1 f3 f4 f5;obtain ⟨o,e,c,d⟩:=id st';exact ⟨u,rfl,Ot (s:={ s with heap:=h' }) e c d (by decide) ⟨x,H,I1,ru,⟨rfl,fun ys hy=>by rw [I.rQ hy hq];exact hx⟩,st',fun b hb=>(hf b hb).1⟩⟩
 done:=by
  intro X hP hw hK hc i pins s σ H E I hf st hg;subst hP hw hK;obtain ⟨xs,hq,hx⟩:=hg;obtain ⟨its,rv,p,hz⟩:=I.list hq;obtain ⟨f0,f1,f2,f3,f4,f5⟩:=hf it (by simp);have hl:=rv.length;exact wpAny_pyNext_list_end (I.ok.hd hc) st p.isList (by simp;omega) fun h' eb=>⟨rfl,I.turned (t':=s.toks) (fun b o hb e=>eb b o hb e) f0 f1 f3 f4 f5⟩
 self:=fun _ _ _ _ _ st h=>wpAny_pyIter_listiter st h
theorem Hq {P:Program} {w:World} {K:PySem.W.Frag} {tg:Expr} (a it:Addr):Turn P w K tg (Itt K a) [it] it (fun i h=>h.IsTupleIter it a i) where
 mem:=by simp
 obj:=fun i h st b hb=>by
  have e:b=it:=by simpa using hb
  subst e;obtain ⟨o,e,c,d⟩:=st;exact ⟨o,e,fun v z=>by rw [d] at z;cases z⟩
 keep:=fun i h h' st k=>st.at fun o e=>k it (by simp) o e
 item:=by
  intro X hP hw hK hc i pins s σ H E I hf st hg;subst hP hw hK;obtain ⟨xs,x,hq,hx⟩:=hg;obtain ⟨its,rv,p,hz⟩:=I.tuple hq;obtain ⟨u,hu,ru⟩:=rv.get hx;obtain ⟨f0,f1,f2,f3,f4,f5⟩:=hf it (by simp);refine wpAny_pyNext_tuple_item st (show s.heap.IsTuple a its.toArray from p) (x:=u) (by simpa using hu) fun h' st' sb=>?_
  have I1:Inv X pins σ H { s with heap:=h' }:=I.turned (t':=s.toks) (fun b o hb e=>(sb.2 b hb).trans e) f0 f1 f3 f4 f5;obtain ⟨o,e,c,d⟩:=id st';exact ⟨u,rfl,Ot (s:={ s with heap:=h' }) e c d (by decide) ⟨x,H,I1,ru,⟨rfl,fun ys hy=>by rw [I.Lz hy hq];exact hx⟩,st',fun b hb=>(hf b hb).1⟩⟩
 done:=by
  intro X hP hw hK hc i pins s σ H E I hf st hg;subst hP hw hK;obtain ⟨xs,hq,hx⟩:=hg;obtain ⟨its,rv,p,hz⟩:=I.tuple hq;obtain ⟨f0,f1,f2,f3,f4,f5⟩:=hf it (by simp);have hl:=rv.length;exact wpAny_pyNext_tuple_end (I.ok.hd hc) st (show s.heap.IsTuple a its.toArray from p) (by simp;omega) fun h' eb=>⟨rfl,I.turned (t':=s.toks) (fun b o hb e=>eb b o hb e) f0 f1 f3 f4 f5⟩
 self:=fun _ _ _ _ _ st h=>wpAny_pyIter_tupleiter st h
theorem Hr {P:Program} {w:World} {K:PySem.W.Frag} {tg:Expr} (it:Addr) (lo:Int) (n:Nat):Turn P w K tg (YZ lo n) [it] it (fun i h=>IsRangeIter h it (lo + (i:Nat) * 1) ((n:Int) - (i:Nat)) 1) where
 mem:=by simp
 obj:=fun i h st b hb=>by
  have e:b=it:=by simpa using hb
  subst e;exact ⟨_,st,fun v z=>by
   have z':Data.fields _=Data.cell v:=z;cases z'⟩
 keep:=fun i h h' st k=>k it (by simp) _ st
 item:=by
  intro X hP hw hK hc i pins s σ H E I hf st hg;subst hP hw hK;obtain ⟨f0,f1,f2,f3,f4,f5⟩:=hf it (by simp);have W:=Walks.range (prog:=X.prog) (w:=X.w) (I.ok.hd hc) it lo 1 n;refine W.item i s _ _ hg st fun v h' tk hv st' kk=>?_
  obtain ⟨t,rfl⟩:=hv;have I1:Inv X pins σ H { s with heap:=h',toks:=tk }:=I.turned (fun b o hb e=>kk b o (by simpa using hb) e) f0 f1 f3 f4 f5;refine ⟨_,rfl,Ot (s:={ s with heap:=h',toks:=tk }) (n:="range_iterator") st' rfl rfl (by decide) ⟨.int (lo + i),H,I1,⟨t,?_⟩,⟨rfl,rfl⟩,st',fun b hb=>(hf b hb).1⟩⟩;rw [Int.mul_one]
 done:=by
  intro X hP hw hK hc i pins s σ H E I hf st hg;subst hP hw hK;obtain ⟨f0,f1,f2,f3,f4,f5⟩:=hf it (by simp);exact wpAny_pyNext_range_end (I.ok.hd hc) st (by have:n≤i:=hg;omega) fun h' eb=>⟨rfl,I.turned (t':=s.toks) (fun b o hb e=>eb b o hb e) f0 f1 f3 f4 f5⟩
 self:=fun _ _ _ _ _ st h=>wpAny_pyIter_rangeiter st h
section
variable {X:Cx} {tg:Expr}
def Y0 (K:PySem.W.Frag) (tl:TE):TI:=fun σ H R=>tl σ H fun x H1=>∃a,x=.ref a∧(∃xs,di K H1 a xs)∧R (Itl K a) H1
def aa6 (K:PySem.W.Frag) (tl:TE):TI:=fun σ H R=>tl σ H fun x H1=>∃a,x=.ref a∧(∃xs,jD K H1 a xs)∧R (Itt K a) H1
theorem JS {l:Expr} {tl:TE} (hl:PE X l tl):PI X tg l (Y0 X.K tl):=by
 intro pins s σ H R I h;refine cX (hl pins s σ H _ I h) fun v s1 aZ=>?_
 obtain ⟨x,H1,I1,r1,q1⟩:=aZ;obtain ⟨a,e,⟨xs,hq⟩,q⟩:=q1;subst e;cases r1;obtain ⟨its,rv,p,hz⟩:=I1.list hq;refine wpAny_pyIter_list p.isList ?_;refine ⟨s1.heap.objs.size,[s1.heap.objs.size],_,_,H1,rfl,I1.kept (t':=s1.toks) fun b o e=>Heap.get?_push_of_some _ e,LK a _,⟨_,Heap.get?_push_size _ rfl,rfl,rfl⟩,fun b hb=>?_,q⟩;have e:b=s1.heap.objs.size:=by simpa using hb
 subst e;exact I1.Av (Nat.le_refl _) (I1.hok.fresh (Nat.le_refl _))
theorem Ou {l:Expr} {tl:TE} (hl:PE X l tl):PI X tg l (aa6 X.K tl):=by
 intro pins s σ H R I h;refine cX (hl pins s σ H _ I h) fun v s1 aZ=>?_
 obtain ⟨x,H1,I1,r1,q1⟩:=aZ;obtain ⟨a,e,⟨xs,hq⟩,q⟩:=q1;subst e;cases r1;obtain ⟨its,rv,p,hz⟩:=I1.tuple hq;refine wpAny_pyIter_tuple (show s1.heap.IsTuple a its.toArray from p) ?_;refine ⟨s1.heap.objs.size,[s1.heap.objs.size],_,_,H1,rfl,I1.kept (t':=s1.toks) fun b o e=>Heap.get?_push_of_some _ e,Hq a _,⟨_,Heap.get?_push_size _ rfl,rfl,rfl⟩,fun b hb=>?_,q⟩;have e:b=s1.heap.objs.size:=by simpa using hb
 subst e;exact I1.Av (Nat.le_refl _) (I1.hok.fresh (Nat.le_refl _))
theorem DQ {pins:List (Addr×Obj)} {σ:St} {H:Hp} {s:Shared} {R:It→Hp→Prop} {E:Value→Shared→Prop} {lo hi:Int} {t u v:Tok} {tk:Nat} (I:Inv X pins σ H s) (h1:-(2 ^ 62)≤lo) (h2:lo < 2 ^ 62) (h3:-(2 ^ 62)≤hi) (h4:hi < 2 ^ 62)
  (q:R (YZ lo (hi - lo).toNat) H):wpAny (model X.prog X.w) X.A (pyIter (.ref s.heap.objs.size)) (PIE X pins σ tg R) E { s with heap:=s.heap.push { cls:=.type "range",data:=.fields #[.int lo t,.int hi u,.int 1 v] },toks:=tk }:=by
 refine wpAny_pyIter_range (IsRange.new ..) (small_one h1 h2 h3 h4) ?_;have I1:Inv X pins σ H { s with heap:=s.heap.push { cls:=.type "range",data:=.fields #[.int lo t,.int hi u,.int 1 v] },toks:=tk }:=I.kept fun b o e=>Heap.get?_push_of_some _ e
 refine ⟨(s.heap.push { cls:=.type "range",data:=.fields #[.int lo t,.int hi u,.int 1 v] }).objs.size,[(s.heap.push { cls:=.type "range",data:=.fields #[.int lo t,.int hi u,.int 1 v] }).objs.size],_,_,H,rfl,
  I1.kept (t':=tk) fun b o e=>Heap.get?_push_of_some _ e,Hr _ lo (hi - lo).toNat,?_,fun b hb=>?_,q⟩
 ·have e1:lo + ((0:Nat):Int) * 1=lo:=by simp
  have e2:(((hi - lo).toNat:Nat):Int) - ((0:Nat):Int)=Builtin.Range.rangeSize lo hi 1:=by rw [rangeSize_one];split <;> omega
  show IsRangeIter _ _ (lo + ((0:Nat):Int) * 1) ((((hi - lo).toNat:Nat):Int) - ((0:Nat):Int)) 1;rw [e1,e2];exact Heap.get?_push_size _ rfl
 ·have e:b=(s.heap.push { cls:=.type "range",data:=.fields #[.int lo t,.int hi u,.int 1 v] }).objs.size:=by simpa using hb
  subst e;exact I1.Av (Nat.le_refl _) (I1.hok.fresh (Nat.le_refl _))
def Y4 (ta:TA):TI:=fun σ H R=>ta σ H fun vs H1=>∃j:Int,vs=[.int j]∧-(2 ^ 62)≤j∧j < 2 ^ 62∧R (YZ 0 j.toNat) H1
def Y5 (ta:TA):TI:=fun σ H R=>ta σ H fun vs H1=>∃i j:Int,vs=[.int i,.int j]∧(-(2 ^ 62)≤i∧i < 2 ^ 62∧-(2 ^ 62)≤j∧j < 2 ^ 62)∧R (YZ i (j - i).toNat) H1
theorem LQ {a:Expr} {ta:TA} {p pos:Pos} (hg:Gl X "range") (hm:X.mg "range"=none) (ha:PA X [a] ta) (hs:starEach [a] X.env=[(false,eval a X.env)]:=by rfl):PI X tg (.Call (.Name "range" p) [a] [] pos) (Y4 ta):=by
 intro pins s σ H R I h;refine Call_ (mQ I hg hm boot_range (PyProof.Rows.callWith_type1 (cX (ha pos pins s σ H _ I h) fun us s1 aZ=>?_) hs rfl));obtain ⟨vs,H1,I1,r1,q1⟩:=aZ;obtain ⟨j,e,q1,q2,q⟩:=q1;subst e;cases r1 with
 | cons r rr=>
  cases rr;obtain ⟨t,rfl⟩:=r;exact call_range_1 (DQ I1 (by omega) (by omega) q1 q2 (by simpa using q))
theorem LR {a b:Expr} {ta:TA} {p pos:Pos} (hg:Gl X "range") (hm:X.mg "range"=none) (ha:PA X [a,b] ta) (hs:starEach [a,b] X.env=[(false,eval a X.env),(false,eval b X.env)]:=by rfl) (hs2:starEach [b] X.env=[(false,eval b X.env)]:=by rfl):
  PI X tg (.Call (.Name "range" p) [a,b] [] pos) (Y5 ta):=by
 intro pins s σ H R I h;refine Call_ (mQ I hg hm boot_range (PyProof.Rows.callWith_type1 (cX (ha pos pins s σ H _ I h) fun us s1 aZ=>?_) (by rw [hs,hs2]) (by rw [hs2];rfl)));obtain ⟨vs,H1,I1,r1,q1⟩:=aZ;obtain ⟨i,j,e,⟨q1,q2,q3,q4⟩,q⟩:=q1;subst e;cases r1 with
 | cons r rr=>
  cases rr with
  | cons r' rr=>
   cases rr;obtain ⟨t,rfl⟩:=r;obtain ⟨t',rfl⟩:=r';exact call_range_2 (DQ I1 q1 q2 q3 q4 q)
def Y6 (wi:TI) (g:TG) (tb:TS):TS:=fun D σ H=>wi σ H fun J H1=>∃W:Nat→Nat→St→Hp→Prop,(∃m,W 0 m σ H1)∧∀i m σ H,W i m σ H→
 (J.stop i H∧D.nx σ H)∨(J.go i H∧∃N:St→Hp→Prop,(∀σ' H',N σ' H'→∃m',m' < m∧W (i + 1) m' σ' H')∧∀x H',J.Vx i H x H'→g x σ H' fun σ2 H2=>tb { D with nx:=N,ct:=N,bk:=D.nx } σ2 H2)
def wH (fp:List Addr) (h:Heap):List (Addr×Obj):=fp.filterMap fun b=>(h.get? b).map fun o=>(b,o)
theorem mR {fp:List Addr} {h:Heap} {b:Addr} {o:Obj} (hb:b∈fp) (e:h.get? b=some o):(b,o)∈wH fp h:=List.mem_filterMap.mpr ⟨b,hb,by rw [e];rfl⟩
theorem Ma {fp:List Addr} {h:Heap} {p:Addr×Obj} (hp:p∈wH fp h):p.1∈fp∧h.get? p.1=some p.2:=by
 obtain ⟨b,hb,e⟩:=List.mem_filterMap.mp hp;cases q:h.get? b with
 | none=>rw [q] at e;cases e
 | some o=>
  rw [q] at e;have e':(b,o)=p:=Option.some.inj e;subst e';exact ⟨hb,q⟩
theorem Inv.pinned {pins:List (Addr×Obj)} {σ:St} {H:Hp} {s:Shared} {fp:List Addr} (I:Inv X pins σ H s) (hf:∀b∈fp,j6 X pins H b) (ho:∀b∈fp,∃o,s.heap.get? b=some o∧∀v,o.data≠.cell v):Inv X (pins++wH fp s.heap) σ H s:=
 I.JP fun p hp=>(List.mem_append.mp hp).elim (fun z=>I.pin p (List.mem_append_right _ z)) fun z=>by
  obtain ⟨hb,e⟩:=Ma z;obtain ⟨f0,f1,f2,_⟩:=hf p.1 hb;obtain ⟨o,e',d⟩:=ho p.1 hb;rw [e] at e';cases e';exact ⟨e,f0,f1,f2,d⟩
theorem Inv.rT {pins pl:List (Addr×Obj)} {σ:St} {H:Hp} {s:Shared} (I:Inv X (pins++pl) σ H s):Inv X pins σ H s:=I.JP fun p hp=>I.pin p (List.mem_append_right _ (List.mem_append_left _ hp))
theorem WD {iter:Expr} {body:List Stmt} {wi:TI} {g:TG} {tb:TS} {pos:Pos} (hp:PassesOwn (model X.prog X.w) X.A X.env X.xe) (hc:X.calm=true) (hi:PI X tg iter wi) (hg:PG X tg g) (hb:vI X body tb)
  (hs:∀x,foldedSetIterable iter X.env x=pure x:=by intro _;rfl):PS X (.For tg iter body [] pos) (Y6 wi g tb):=by
 intro pins s σ H D I h;refine wpAny_For (cX (hi pins s σ H _ I h) fun v s1 h1=>cX h1 fun itv s2 h2=>?_) hs;obtain ⟨it,fp,tn,J,H2,e,I2,T,st2,f2,W,⟨m0,w0⟩,turn⟩:=h2;subst e;have stat:∀{H':Hp},(∀b∈fp,H' b=none)→∀b∈fp,j6 X pins H' b:=fun hn b hb=>⟨hn b hb,(f2 b hb).2⟩
 refine codeAny_forLoop_any (fun n s'=>∃i σ' H',Inv X pins σ' H' s'∧tn i s'.heap∧(∀b∈fp,H' b=none)∧W i n σ' H') ?_ m0 ⟨0,σ,H2,I2,st2,fun b hb=>(f2 b hb).1,w0⟩;rintro n s3 ⟨i,σ3,H3,I3,st3,Y7,w3⟩;rcases turn i n σ3 H3 w3 with ⟨stop,qn⟩ | ⟨go,N,hN,step⟩
 ·refine wpAny_passesOwn hp (cX (T.done X rfl rfl rfl hc i pins s3 σ3 H3 X.xe I3 (stat Y7) st3 stop) fun r s4 aZ=>?_);obtain ⟨hr,I4⟩:=aZ;subst hr;exact wpAny_execs_nil ⟨σ3,H3,I4,qn⟩
 ·refine wpAny_passesOwn hp (cX (T.item X rfl rfl rfl hc i pins s3 σ3 H3 X.xe I3 (stat Y7) st3 go) fun r s4 aZ=>?_);obtain ⟨u,hr,h4⟩:=aZ;subst hr;refine wpAny_passesOwn hp (cX h4 fun _ s5 aZ=>?_);obtain ⟨x,H5,I5,r5,y5,WK,fr5⟩:=aZ;have I5':=I5.pinned (stat fr5) (T.obj _ _ WK);refine wpAny_passesOwn hp (cX (hg _ s5 σ3 H5 x u _ I5' r5 (step x H5 y5)) fun _ s6 aZ=>?_);obtain ⟨σ6,H6,I6,q6⟩:=aZ;refine wpAny_passesOwn hp (cX (hb _ s6 σ6 H6 _ I6 q6) fun f s7 q7=>?_);have again:∀{σ7:St} {H7:Hp},Inv X (pins++wH fp s5.heap) σ7 H7 s7→N σ7 H7→∃m,m < n∧∃i σ' H',Inv X pins σ' H' s7∧tn i s7.heap∧(∀b∈fp,H' b=none)∧W i m σ' H':=fun {σ7 H7} I7 n7=>by
   obtain ⟨m',hm,w7⟩:=hN σ7 H7 n7;refine ⟨m',hm,i + 1,σ7,H7,I7.rT,T.keep _ _ _ WK fun b hb o e=>(I7.pin (b,o) (List.mem_append_right _ (List.mem_append_right _ (mR hb e)))).1,fun b hb=>?_,w7⟩;obtain ⟨o,e,d⟩:=T.obj _ _ WK b hb;exact (I7.pin (b,o) (List.mem_append_right _ (List.mem_append_right _ (mR hb e)))).2.1
  cases f with
  | next=>obtain ⟨σ7,H7,I7,n7⟩:=q7;exact again I7 n7
  | cont=>obtain ⟨σ7,H7,I7,n7⟩:=q7;exact again I7 n7
  | brk=>obtain ⟨σ7,H7,I7,q7⟩:=q7;exact ⟨σ7,H7,I7.rT,q7⟩
  | ret v=>obtain ⟨x7,σ7,H7,I7,r7,q7⟩:=q7;exact ⟨x7,σ7,H7,I7.rT,r7,q7⟩
end
abbrev R2:=V→V→Hp→VK→Prop
def g8 (X:Cx) (f:Value→Value→Sem Value) (r:R2):Prop:=
 ∀(pins:List (Addr×Obj)) (s:Shared) (σ:St) (H:Hp) (x y:V) (v u:Value) (Q:VK),Inv X pins σ H s→RelV x v→RelV y u→r x y H Q→
  wpAny (model X.prog X.w) X.A (f v u) (EP X pins σ Q) X.xe s
def UnR (X:Cx) (f:Value→Sem Value) (r:V→Hp→VK→Prop):Prop:=
 ∀(pins:List (Addr×Obj)) (s:Shared) (σ:St) (H:Hp) (x:V) (v:Value) (Q:VK),Inv X pins σ H s→RelV x v→r x H Q→
  wpAny (model X.prog X.w) X.A (f v) (EP X pins σ Q) X.xe s
def cY (X:Cx) (f:Value) (r:List V→Hp→VK→Prop):Prop:=
 ∀(pins:List (Addr×Obj)) (s:Shared) (σ:St) (H:Hp) (xs:List V) (us:List Value) (Q:VK),Inv X pins σ H s→Vals xs us→r xs H Q→
  wpAny (model X.prog X.w) X.A (call f us) (EP X pins σ Q) X.xe s
def aba (X:Cx) (r:V→Hp→(Bool→Hp→Prop)→Prop):Prop:=
 ∀(pins:List (Addr×Obj)) (s:Shared) (σ:St) (H:Hp) (x:V) (v:Value) (Q:Bool→Hp→Prop),Inv X pins σ H s→RelV x v→r x H Q→
  wpAny (model X.prog X.w) X.A (truthy v) (TP X pins σ Q) X.xe s
def Y8 (r:R2) (ta tb:TE):TE:=fun σ H Q=>ta σ H fun x H1=>tb σ H1 fun y H2=>r x y H2 Q
def tUn (r:V→Hp→VK→Prop) (ta:TE):TE:=fun σ H Q=>ta σ H fun x H1=>r x H1 Q
def rI (C:Int→Int→Prop) (g:Int→Int→V):R2:=fun x y H Q=>∃i j,x=.int i∧y=.int j∧C i j∧Q (g i j) H
def Mf (g:Int→Int→V):R2:=fun x y H Q=>∃i j,x=.int i∧y=.int j∧Q (g i j) H
def rU (g:Int→V):V→Hp→VK→Prop:=fun x H Q=>∃i,x=.int i∧Q (g i) H
section
variable {X:Cx} {a b c:Expr} {ta tb tc:TE} {pos:Pos}
theorem WL (ha:PE X a ta) (hb:PE X b tb) {pins:List (Addr×Obj)} {s:Shared} {σ:St} {H:Hp} {R:V→V→Hp→Prop} (I:Inv X pins σ H s)
  (h:ta σ H fun x H1=>tb σ H1 fun y H2=>R x y H2) {Q:Value→Shared→Prop} {f:Value→Value→Sem Value}
  (hf:∀v u s2 x y H2,Inv X pins σ H2 s2→RelV x v→RelV y u→R x y H2→wpAny (model X.prog X.w) X.A (f v u) Q X.xe s2):
  wpAny (model X.prog X.w) X.A (eval a X.env) (fun v s₁=>wpAny (model X.prog X.w) X.A (eval b X.env) (fun u s₂=>wpAny (model X.prog X.w) X.A (f v u) Q X.xe s₂) X.xe s₁) X.xe s:=by
 refine cX (ha pins s σ H _ I h) fun v s1 aZ=>?_
 obtain ⟨x,H1,I1,r1,q1⟩:=aZ;refine cX (hb pins s1 σ H1 _ I1 q1) fun u s2 aZ=>?_
 obtain ⟨y,H2,I2,r2,q2⟩:=aZ;exact hf v u s2 x y H2 I2 r1 r2 q2
theorem Y9 {op:Operator} {r:R2} (ho:g8 X (binaryOp op) r) (ha:PE X a ta) (hb:PE X b tb):PE X (.BinOp a op b pos) (Y8 r ta tb):=by
 intro pins s σ H Q I h;exact wpAny_BinOp (WL ha hb I h fun v u s2 x y H2 I2 rx ry q=>ho pins s2 σ H2 x y v u Q I2 rx ry q)
theorem Za {op:UnaryOp} {r:V→Hp→VK→Prop} (ho:UnR X (unaryOp op) r) (ha:PE X a ta):PE X (.UnaryOp op a pos) (tUn r ta):=by
 intro pins s σ H Q I h;exact UnaryOp_ (cX (ha pins s σ H _ I h) fun v s1 ⟨x,H1,I1,r1,q1⟩=>ho pins s1 σ H1 x v Q I1 r1 q1)
theorem opI {f:Value→Value→Sem Value} {C:Int→Int→Prop} {g:Int→Int→Int}
  (rule:∀(i j:Int) (t u:Tok) (s:Shared) (Q:Value→Shared→Prop) (E:Value→Shared→Prop),C i j→Q (.int (g i j) s.toks) { s with toks:=s.toks + 1 }→wpAny (model X.prog X.w) X.A (f (.int i t) (.int j u)) Q E s):
  g8 X f (rI C fun i j=>.int (g i j)):=by
 intro pins s σ H x y v u Q I rx ry h;obtain ⟨i,j,rfl,rfl,hc,q⟩:=h;obtain ⟨t,rfl⟩:=rx;obtain ⟨t',rfl⟩:=ry;exact rule i j t t' s _ _ hc ⟨.int (g i j),H,I.tok _,⟨_,rfl⟩,q⟩
theorem Zb {f:Value→Value→Sem Value} {g:Int→Int→Int}
  (rule:∀(i j:Int) (t u:Tok) (s:Shared) (Q:Value→Shared→Prop) (E:Value→Shared→Prop),Q (.int (g i j) s.toks) { s with toks:=s.toks + 1 }→wpAny (model X.prog X.w) X.A (f (.int i t) (.int j u)) Q E s):
  g8 X f (Mf fun i j=>.int (g i j)):=by
 intro pins s σ H x y v u Q I rx ry h;obtain ⟨i,j,rfl,rfl,q⟩:=h;obtain ⟨t,rfl⟩:=rx;obtain ⟨t',rfl⟩:=ry;exact rule i j t t' s _ _ ⟨.int (g i j),H,I.tok _,⟨_,rfl⟩,q⟩
theorem WM {f:Value→Value→Sem Value} {g:Int→Int→Bool}
  (rule:∀(i j:Int) (t u:Tok) (s:Shared) (Q:Value→Shared→Prop) (E:Value→Shared→Prop),Q (.bool (g i j)) s→wpAny (model X.prog X.w) X.A (f (.int i t) (.int j u)) Q E s):
  g8 X f (Mf fun i j=>.bl (g i j)):=by
 intro pins s σ H x y v u Q I rx ry h;obtain ⟨i,j,rfl,rfl,q⟩:=h;obtain ⟨t,rfl⟩:=rx;obtain ⟨t',rfl⟩:=ry;exact rule i j t t' s _ _ ⟨.bl (g i j),H,I,rfl,q⟩
def Zc (i j:Int):Prop:=0 < j∧j < 1073741824
def Zd (i j:Int):Prop:=0≤j∧j≤1000000∧i.natAbs < 2 ^ 64
def Ov (i j:Int):Prop:=(-(2 ^ 64) < i∧i < 2 ^ 64)∨(-(2 ^ 64) < j∧j < 2 ^ 64)
theorem Ov.ok {i j:Int} (h:Ov i j):IntMulOk i j:=by
 rcases h with ⟨h1,h2⟩ | ⟨h1,h2⟩
 ·exact .of_left (intBits_le_64 h1 h2)
 ·exact .of_right (intBits_le_64 h1 h2)
theorem WN:g8 X (binaryOp .Add) (Mf fun i j=>.int (i + j)):=Zb fun _ _ _ _ _ _ _ q=>add_int q
theorem wI:g8 X (binaryOp .Sub) (Mf fun i j=>.int (i - j)):=Zb fun _ _ _ _ _ _ _ q=>sub_int q
theorem iu:g8 X (binaryOp .Mult) (rI Ov fun i j=>.int (i * j)):=opI fun _ _ _ _ _ _ _ hc q=>mul_int q hc.ok
theorem Aw:g8 X (binaryOp .FloorDiv) (rI Zc fun i j=>.int (i / j)):=opI fun i j _ _ _ _ _ hc q=>by
 have h1:(0:Int) < j:=hc.1;have h2:j < 1073741824:=hc.2;exact floordiv_int (by omega) (by rw [Int.fdiv_eq_ediv_of_nonneg i (by omega)];exact q) (.inl (PyProof.noPylong_small (by omega)))
theorem jG:g8 X (binaryOp .Mod) (rI (fun _ j=>0 < j) fun i j=>.int (i % j)):=opI fun i j _ _ _ _ _ hc q=>by
 have h1:(0:Int) < j:=hc;exact mod_int' (by omega) (by rw [Int.fmod_eq_emod_of_nonneg i (by omega)];exact q)
theorem Hs:g8 X (binaryOp .Pow) (rI Zd fun i j=>.int (i ^ j.toNat)):=opI fun _ _ _ _ _ _ _ hc q=>pow_int_small hc.1 hc.2.1 hc.2.2 q
theorem unI {f:Value→Sem Value} {g:Int→Int}
  (rule:∀(i:Int) (t:Tok) (s:Shared) (Q:Value→Shared→Prop) (E:Value→Shared→Prop),Q (.int (g i) s.toks) { s with toks:=s.toks + 1 }→wpAny (model X.prog X.w) X.A (f (.int i t)) Q E s):
  UnR X f (rU fun i=>.int (g i)):=by
 intro pins s σ H x v Q I rx h;obtain ⟨i,rfl,q⟩:=h;obtain ⟨t,rfl⟩:=rx;exact rule i t s _ _ ⟨.int (g i),H,I.tok _,⟨_,rfl⟩,q⟩
theorem WQ:UnR X (unaryOp .USub) (rU fun i=>.int (-i)):=unI fun _ _ _ _ _ q=>neg_int q
end
def WR:V→V→Bool
 | .non,.non=>true | .non,.int _=>true | .int _,.non=>true | .non,.bl _=>true | .bl _,.non=>true | .non,.str _=>true | .str _,.non=>true
 | .int _,.int _=>true | .bl _,.bl _=>true | .str _,.str _=>true | .Lx _,.Lx _=>true
 | .int _,.str _=>true | .str _,.int _=>true | .bl _,.str _=>true | .str _,.bl _=>true
 | _,_=>false
def rEq:R2:=fun x y H Q=>WR x y=true∧Q (.bl (decide (x=y))) H
def rNe:R2:=fun x y H Q=>WR x y=true∧Q (.bl (!decide (x=y))) H
theorem Ax {i j:Int}:decide (V.int i=V.int j)=(i==j):=by
 rw [Bool.eq_iff_iff];simp
theorem Ht {i j:Bool}:decide (V.bl i=V.bl j)=(i==j):=by
 rw [Bool.eq_iff_iff];simp
theorem Ay {i j:Str}:decide (V.str i=V.str j)=(i==j):=by
 rw [Bool.eq_iff_iff];simp
theorem JT {i j:Array UInt8}:decide (V.Lx i=V.Lx j)=(i.toList==j.toList):=by
 rw [Bool.eq_iff_iff];cases i;cases j;simp
section
variable {X:Cx} {a b c:Expr} {ta tb tc:TE} {pos:Pos}
theorem bR {pins:List (Addr×Obj)} {σ:St} {H:Hp} {s:Shared} {Q:VK} {k k':Bool} (I:Inv X pins σ H s) (q:Q (.bl k) H) (e:k=k'):EP X pins σ Q (.bool k') s:=by
 subst e;exact ⟨.bl k,H,I,rfl,q⟩
theorem Ze:g8 X (compareOp .Eq) rEq:=by
 intro pins s σ H x y v u Q I rx ry h;obtain ⟨hs,q⟩:=h;cases x with
 | non=>
  cases rx;cases y with
  | non=>cases ry;exact PySem.EqNone.eq_none_none (bR I q (by simp))
  | bl j=>cases ry;exact PySem.EqNone.eq_none_bool (bR I q (by simp))
  | int j=>obtain ⟨t',rfl⟩:=ry;exact PySem.EqNone.eq_none_int (bR I q (by simp))
  | str j=>obtain ⟨t',rfl⟩:=ry;exact PySem.EqNone.eq_none_str (bR I q (by simp))
  | _=>exact absurd (show false=true from hs) Bool.false_ne_true
 | bl i=>
  cases rx;cases y with
  | non=>cases ry;exact PySem.EqNone.eq_bool_none (bR I q (by simp))
  | bl j=>cases ry;exact eq_bool (bR I q Ht)
  | str j=>obtain ⟨t',rfl⟩:=ry;exact PySem.EqMixed.eq_bool_str (bR I q (by simp))
  | _=>exact absurd (show false=true from hs) Bool.false_ne_true
 | int i=>
  obtain ⟨t,rfl⟩:=rx;cases y with
  | non=>cases ry;exact PySem.EqNone.eq_int_none (bR I q (by simp))
  | int j=>obtain ⟨t',rfl⟩:=ry;exact eq_int (bR I q Ax)
  | str j=>obtain ⟨t',rfl⟩:=ry;exact PySem.EqMixed.eq_int_str (bR I q (by simp))
  | _=>exact absurd (show false=true from hs) Bool.false_ne_true
 | str i=>
  obtain ⟨t,rfl⟩:=rx;cases y with
  | non=>cases ry;exact PySem.EqNone.eq_str_none (bR I q (by simp))
  | bl j=>cases ry;exact PySem.EqMixed.eq_str_bool (bR I q (by simp))
  | int j=>obtain ⟨t',rfl⟩:=ry;exact PySem.EqMixed.eq_str_int (bR I q (by simp))
  | str j=>obtain ⟨t',rfl⟩:=ry;exact eq_str (bR I q Ay)
  | _=>exact absurd (show false=true from hs) Bool.false_ne_true
 | Lx i=>
  obtain ⟨t,rfl⟩:=rx;cases y with
  | Lx j=>obtain ⟨t',rfl⟩:=ry;exact PySem.W.eq_bytes (bR I q JT)
  | _=>exact absurd (show false=true from hs) Bool.false_ne_true
 | _=>cases y <;> exact absurd (show false=true from hs) Bool.false_ne_true
theorem Zf:g8 X (compareOp .NotEq) rNe:=by
 intro pins s σ H x y v u Q I rx ry h;obtain ⟨hs,q⟩:=h;cases x with
 | non=>
  cases rx;cases y with
  | non=>cases ry;exact PySem.EqNone.ne_none_none (bR I q (by simp))
  | bl j=>cases ry;exact PySem.EqNone.ne_none_bool (bR I q (by simp))
  | int j=>obtain ⟨t',rfl⟩:=ry;exact PySem.EqNone.ne_none_int (bR I q (by simp))
  | str j=>obtain ⟨t',rfl⟩:=ry;exact PySem.EqNone.ne_none_str (bR I q (by simp))
  | _=>exact absurd (show false=true from hs) Bool.false_ne_true
 | bl i=>
  cases rx;cases y with
  | non=>cases ry;exact PySem.EqNone.ne_bool_none (bR I q (by simp))
  | bl j=>cases ry;exact ne_bool (bR I q (congrArg not Ht))
  | str j=>obtain ⟨t',rfl⟩:=ry;exact PySem.EqMixed.ne_bool_str (bR I q (by simp))
  | _=>exact absurd (show false=true from hs) Bool.false_ne_true
 | int i=>
  obtain ⟨t,rfl⟩:=rx;cases y with
  | non=>cases ry;exact PySem.EqNone.ne_int_none (bR I q (by simp))
  | int j=>obtain ⟨t',rfl⟩:=ry;exact ne_int (bR I q (congrArg not Ax))
  | str j=>obtain ⟨t',rfl⟩:=ry;exact PySem.EqMixed.ne_int_str (bR I q (by simp))
  | _=>exact absurd (show false=true from hs) Bool.false_ne_true
 | str i=>
  obtain ⟨t,rfl⟩:=rx;cases y with
  | non=>cases ry;exact PySem.EqNone.ne_str_none (bR I q (by simp))
  | bl j=>cases ry;exact PySem.EqMixed.ne_str_bool (bR I q (by simp))
  | int j=>obtain ⟨t',rfl⟩:=ry;exact PySem.EqMixed.ne_str_int (bR I q (by simp))
  | str j=>obtain ⟨t',rfl⟩:=ry;exact ne_str (bR I q (congrArg not Ay))
  | _=>exact absurd (show false=true from hs) Bool.false_ne_true
 | Lx i=>
  obtain ⟨t,rfl⟩:=rx;cases y with
  | Lx j=>obtain ⟨t',rfl⟩:=ry;exact PySem.W.ne_bytes (bR I q (congrArg not JT))
  | _=>exact absurd (show false=true from hs) Bool.false_ne_true
 | _=>cases y <;> exact absurd (show false=true from hs) Bool.false_ne_true
theorem Zg:g8 X (compareOp .LtE) (Mf fun i j=>.bl (decide (i≤j))):=WM fun _ _ _ _ _ _ _ q=>le_int q
theorem DR:g8 X (compareOp .Gt) (Mf fun i j=>.bl (decide (j < i))):=WM fun _ _ _ _ _ _ _ q=>gt_int q
theorem Zh:g8 X (compareOp .GtE) (Mf fun i j=>.bl (decide (j≤i))):=WM fun _ _ _ _ _ _ _ q=>ge_int q
theorem WT:g8 X (compareOp .Is) (fun x y H Q=>y=.non∧Q (.bl (decide (x=.non))) H):=by
 intro pins s σ H x y v u Q I rx ry h;obtain ⟨rfl,q⟩:=h;cases ry;refine is_none_gen (bR I q ?_);cases x <;> first
  | (cases rx;rfl)
  | (obtain ⟨t,rfl⟩:=rx;rfl)
theorem Te:g8 X (compareOp .IsNot) (fun x y H Q=>y=.non∧Q (.bl (!decide (x=.non))) H):=by
 intro pins s σ H x y v u Q I rx ry h;obtain ⟨rfl,q⟩:=h;cases ry;refine isnot_none_gen (bR I q ?_);cases x <;> first
  | (cases rx;rfl)
  | (obtain ⟨t,rfl⟩:=rx;rfl)
theorem g8.or {f:Value→Value→Sem Value} {r r':R2} (h:g8 X f r) (h':g8 X f r'):g8 X f (fun x y H Q=>r x y H Q∨r' x y H Q):=by
 intro pins s σ H x y v u Q I rx ry q;rcases q with q | q
 ·exact h pins s σ H x y v u Q I rx ry q
 ·exact h' pins s σ H x y v u Q I rx ry q
theorem cH (b:Expr) {op:CmpOp} (h:op≠.In:=by decide) (h2:op≠.NotIn:=by decide):behindInMarks op b=false:=by
 have e1:(op==CmpOp.In)=false:=by cases op <;> first | rfl | exact absurd rfl h
 have e2:(op==CmpOp.NotIn)=false:=by cases op <;> first | rfl | exact absurd rfl h2
 cases b <;> simp [behindInMarks,e1,e2]
theorem Tf {op:CmpOp} {r:R2} (ho:g8 X (compareOp op) r) (ha:PE X a ta) (hb:PE X b tb) (hm:behindInMarks op b=false):PE X (.Compare a [op] [b] pos) (Y8 r ta tb):=by
 intro pins s σ H Q I h;exact wpAny_Compare1 (WL ha hb I h fun v u s2 x y H2 I2 rx ry q=>ho pins s2 σ H2 x y v u Q I2 rx ry q) hm
def Ow (t:TE):TT:=fun σ H Q=>t σ H fun x H'=>∃k,x=.bl k∧Q k H'
theorem Tg {op:CmpOp} {r:R2} (ho:g8 X (compareOp op) r) (ha:PE X a ta) (hb:PE X b tb) (hm:behindInMarks op b=false):PT X (.Compare a [op] [b] pos) (Ow (Y8 r ta tb)):=by
 intro pins s σ H Q I h;refine wpAny_isTrue_Compare1 (cX (ha pins s σ H _ I h) fun v s1 ⟨x,H1,I1,r1,q1⟩=>cX (hb pins s1 σ H1 _ I1 q1) fun u s2 ⟨y,H2,I2,r2,q2⟩=>
  cX (ho pins s2 σ H2 x y v u _ I2 r1 r2 q2) fun c s3 ⟨z,H3,I3,r3,k,e,q3⟩=>?_) hm
 subst e;cases r3;exact wpAny_truthy_bool ⟨H3,I3,q3⟩
def Hu (r r':R2) (ta tb tc:TE):TE:=fun σ H Q=>ta σ H fun x H1=>tb σ H1 fun y H2=>r x y H2 fun z H3=>∃k,z=.bl k∧
 (if k=true then tc σ H3 fun w' H4=>r' y w' H4 Q else Q (.bl false) H3)
theorem Ox {op op':CmpOp} {r r':R2} (ho:g8 X (compareOp op) r) (ho':g8 X (compareOp op') r') (ha:PE X a ta) (hb:PE X b tb) (hc:PE X c tc)
  (hm:lastMarks [op,op'] [b,c]=false:=by with_unfolding_all rfl):PE X (.Compare a [op,op'] [b,c] pos) (Hu r r' ta tb tc):=by
 intro pins s σ H Q I h;refine Compare_chain (cX (ha pins s σ H _ I h) fun v s1 ⟨x,H1,I1,r1,q1⟩=>chain_link (cX (hb pins s1 σ H1 _ I1 q1) fun u s2 ⟨y,H2,I2,r2,q2⟩=>
  cX (ho pins s2 σ H2 x y v u _ I2 r1 r2 q2) fun d s3 ⟨z,H3,I3,r3,k,e,q3⟩=>?_)) hm
 subst e;cases r3;refine wpAny_truthy_bool ?_;cases k with
 | false=>exact ite_ff ⟨.bl false,H3,I3,rfl,q3⟩
 | true=>exact ite_tt (chain_last (cX (hc pins s3 σ H3 _ I3 q3) fun w' s4 ⟨z',H4,I4,r4,q4⟩=>ho' pins s4 σ H4 y z' u w' Q I4 r2 r4 q4))
theorem Oz {op op':CmpOp} {r r':R2} (ho:g8 X (compareOp op) r) (ho':g8 X (compareOp op') r') (ha:PE X a ta) (hb:PE X b tb) (hc:PE X c tc)
  (hm:lastMarks [op,op'] [b,c]=false:=by with_unfolding_all rfl):PT X (.Compare a [op,op'] [b,c] pos) (Ow (Hu r r' ta tb tc)):=by
 intro pins s σ H Q I h;refine isTrue_chain (cX (ha pins s σ H _ I h) fun v s1 ⟨x,H1,I1,r1,q1⟩=>test_link (cX (hb pins s1 σ H1 _ I1 q1) fun u s2 ⟨y,H2,I2,r2,q2⟩=>
  cX (ho pins s2 σ H2 x y v u _ I2 r1 r2 q2) fun d s3 ⟨z,H3,I3,r3,k,e,q3⟩=>?_)) hm
 subst e;cases r3;refine wpAny_truthy_bool ?_;cases k with
 | false=>
  obtain ⟨k',e',q'⟩:=q3;cases e';exact ite_ff ⟨H3,I3,q'⟩
 | true=>
  refine ite_tt (test_last (cX (hc pins s3 σ H3 _ I3 q3) fun w' s4 ⟨z',H4,I4,r4,q4⟩=>cX (ho' pins s4 σ H4 y z' u w' _ I4 r2 r4 q4) fun d' s5 aZ=>?_));obtain ⟨z2,H5,I5,r5,k2,e2,q5⟩:=aZ;subst e2;cases r5;exact wpAny_truthy_bool ⟨H5,I5,q5⟩
def WW (K:PySem.W.Frag) (x:V) (H:Hp) (k:Bool):Prop:=
 match x with
 | .non=>k=false
 | .bl b=>k=b
 | .int i=>k=(i != 0)
 | .str y=>y.length≤sizeLine∧k=((y.length:Int) != 0)
 | .Lx y=>y.size≤sizeLine∧k=((y.size:Int) != 0)
 | .ref p=>(∃xs,di K H p xs∧k=!xs.isEmpty)∨(∃xs,jD K H p xs∧k=!xs.isEmpty)∨∃kvs,H p=some (.dK kvs)∧k=!kvs.isEmpty
 | _=>False
theorem Hv {κ:Type} {kvs:List (κ×V)} {vs:List (κ×Value)} (r:KV kvs vs):(!vs.isEmpty)=!kvs.isEmpty:=by
 cases r <;> rfl
theorem wJ {xs:List V} {its:List Value} (r:Vals xs its):(!its.toArray.isEmpty)=!xs.isEmpty:=by
 cases r <;> simp
theorem q9:(sizeLine:Nat) < 2 ^ 63:=by rw [sizeLine_eq];decide
theorem WX:aba X (fun x H Q=>∃k,WW X.K x H k∧Q k H):=by
 intro pins s σ H x v Q I rx h;obtain ⟨k,e,q⟩:=h;have hl:=q9;have hs:sizeLine=16777216:=sizeLine_eq;cases x with
 | non=>
  cases rx;have e':k=false:=e;subst e';exact truthy_none ⟨H,I,q⟩
 | bl b=>
  cases rx;have e':k=b:=e;subst e';exact wpAny_truthy_bool ⟨H,I,q⟩
 | int i=>
  obtain ⟨t,rfl⟩:=rx;have e':k=(i != 0):=e;subst e';exact PySem.P.truthy_int ⟨H,I,q⟩
 | str y=>
  obtain ⟨t,rfl⟩:=rx;obtain ⟨hy,e'⟩:y.length≤sizeLine∧k=((y.length:Int) != 0):=e;subst e';exact PySem.P.truthy_str (by omega) ⟨H,I.tok _,q⟩
 | Lx y=>
  obtain ⟨t,rfl⟩:=rx;obtain ⟨hy,e'⟩:y.size≤sizeLine∧k=((y.size:Int) != 0):=e;subst e';exact PySem.W.truthy_bytes (by omega) ⟨H,I.tok _,q⟩
 | ref p=>
  cases rx;have e':(∃xs,di X.K H p xs∧k=!xs.isEmpty)∨(∃xs,jD X.K H p xs∧k=!xs.isEmpty)∨∃kvs,H p=some (.dK kvs)∧k=!kvs.isEmpty:=e;rcases e' with ⟨xs,hx,e'⟩ | ⟨xs,hx,e'⟩ | ⟨kvs,hx,e'⟩
  ·subst e';obtain ⟨its,r,pl,hz⟩:=I.list hx;have hlen:=r.length;exact wpAny_truthy_list pl.isList (by simp only [List.size_toArray];omega) ⟨H,I.tok _,by rw [wJ r];exact q⟩
  ·subst e';obtain ⟨its,r,pl,hz⟩:=I.tuple hx;have hlen:=r.length;exact truthy_tuple pl (by simp only [List.size_toArray];omega) ⟨H,I.tok _,by rw [wJ r];exact q⟩
  ·subst e';obtain ⟨hz,hS,vs,r,m⟩:kvs.length≤sizeLine∧(p==sysModules)=false∧∃vs,KV kvs vs∧s.heap.DictOf (cL X.prog X.w) p vs:=I.hok p _ hx;have hlen:kvs.length=vs.length:=Paired.length r;exact wpAny_truthy_dict hS m (by omega) ⟨H,I.tok _,by rw [Hv r];exact q⟩
 | _=>exact (show False from e).elim
theorem OD (ha:PE X a ta) (he:∀whole,isTrue a X.env whole=(do let v ←whole;standAt a.pos;holding [v] (truthy v))):
  PT X a (fun σ H Q=>ta σ H fun x H'=>∃k,WW X.K x H' k∧Q k H'):=by
 intro pins s σ H Q I h;exact isTrue_plain (cX (ha pins s σ H _ I h) fun v s1 ⟨x,H1,I1,r1,q1⟩=>WX pins s1 σ H1 x v Q I1 r1 q1) (he _)
theorem Hw:g8 X (binaryOp .Add) (fun x y H Q=>∃i j,x=.str i∧y=.str j∧i.length + j.length≤sizeLine∧Q (.str (i++j)) H):=by
 intro pins s σ H x y v u Q I rx ry h;obtain ⟨i,j,rfl,rfl,hz,q⟩:=h;obtain ⟨t,rfl⟩:=rx;obtain ⟨t',rfl⟩:=ry;exact add_str (fun t' tk=>⟨.str (i++j),H,I.tok _,⟨_,rfl⟩,q⟩) hz
theorem vals1 {x:V} {us:List Value} (r:Vals [x] us):∃u,us=[u]∧RelV x u:=by
 cases r with
 | cons r1 r2=>cases r2;exact ⟨_,rfl,r1⟩
theorem vals2 {x y:V} {us:List Value} (r:Vals [x,y] us):∃u w',us=[u,w']∧RelV x u∧RelV y w':=by
 cases r with
 | cons r1 r2=>
  cases r2 with
  | cons r3 r4=>cases r4;exact ⟨_,_,rfl,r1,r3⟩
theorem DW:cY X (.builtin "abs") (fun xs H Q=>∃i,xs=[.int i]∧Q (.int (if i < 0 then -i else i)) H):=by
 intro pins s σ H xs us Q I r h;obtain ⟨i,rfl,q⟩:=h;obtain ⟨u,rfl,t,rfl⟩:=vals1 r;exact call_abs_int fun u tk=>⟨.int (if i < 0 then -i else i),H,I.tok _,⟨_,rfl⟩,q⟩
theorem Mg (hc:X.calm=true):cY X (.builtin "max") (fun xs H Q=>∃i j,xs=[.int i,.int j]∧Q (.int (if j > i then j else i)) H):=by
 intro pins s σ H xs us Q I r h;obtain ⟨i,j,rfl,q⟩:=h;obtain ⟨u,w',rfl,⟨t,rfl⟩,⟨t',rfl⟩⟩:=vals2 r;refine max_two_ints (I.ok.hd hc) fun h' tk k=>⟨_,H,I.kept k,?_,q⟩
 by_cases hj:j > i
 ·rw [if_pos hj,if_pos hj];exact ⟨_,rfl⟩
 ·rw [if_neg hj,if_neg hj];exact ⟨_,rfl⟩
theorem pQ (hc:X.calm=true):cY X (.builtin "min") (fun xs H Q=>∃i j,xs=[.int i,.int j]∧Q (.int (if j < i then j else i)) H):=by
 intro pins s σ H xs us Q I r h;obtain ⟨i,j,rfl,q⟩:=h;obtain ⟨u,w',rfl,⟨t,rfl⟩,⟨t',rfl⟩⟩:=vals2 r;refine min_two_ints (I.ok.hd hc) fun h' tk k=>⟨_,H,I.kept k,?_,q⟩
 by_cases hj:j < i
 ·rw [if_pos hj,if_pos hj];exact ⟨_,rfl⟩
 ·rw [if_neg hj,if_neg hj];exact ⟨_,rfl⟩
theorem pR:cY X (.type "int") (fun xs H Q=>(∃i,xs=[.int i]∧Q (.int i) H)∨∃k,xs=[.bl k]∧Q (.int (if k then 1 else 0)) H):=by
 intro pins s σ H xs us Q I r h;rcases h with ⟨i,rfl,q⟩ | ⟨k,rfl,q⟩
 ·obtain ⟨u,rfl,t,rfl⟩:=vals1 r;exact call_int_int ⟨.int i,H,I,⟨_,rfl⟩,q⟩
 ·obtain ⟨u,rfl,r1⟩:=vals1 r;cases r1;exact call_int_bool ⟨.int (if k then 1 else 0),H,I.tok _,⟨_,rfl⟩,q⟩
end
structure WY (h:Heap) (x dx C:Addr) (mA:Str→Option Value):Prop where
 obj:h.get? x=some (PySem.W.instObj C dx)
 ns:h.Ns1 dx mA
 ne:dx≠x
theorem Mh {h:Heap} {dx:Addr} {mA:Str→Option Value} (n:h.Ns1 dx mA):∃od,h.get? dx=some od∧∀name,PySem.W.lookIn name od=some (mA name):=by
 obtain ⟨o,es,ep,ho,hd,hk,_,hm⟩:=n;refine ⟨o,ho,fun name=>?_⟩;have e:=hm name;unfold nsFind findBy at e;rw [←Array.find?_toList] at e;unfold PySem.W.lookIn;rw [hd];dsimp only;split
 ·rename_i y q;rw [q] at e;exact congrArg some e
 ·rename_i q;rw [q] at e;have a:es.toList.any (·.refKey)=false:=by
   rw [List.any_eq_false];intro y hy;obtain ⟨z,t,hkey⟩:=hk y (Array.mem_toList_iff.mp hy);simp [DictEntry.refKey,hkey]
  have a':¬es.toList.any (·.refKey)=true:=by rw [a];exact Bool.false_ne_true
  rw [if_neg a'];exact congrArg some e
theorem WY.look {h:Heap} {x dx C:Addr} {mA:Str→Option Value} (I:WY h x dx C mA):∃od,PySem.W.InstAt h x (PySem.W.instObj C dx) C (some od)∧∀name,PySem.W.lookIn name od=some (mA name):=
 let ⟨od,ho,hl⟩:=Mh I.ns
 ⟨od,⟨I.obj,rfl,rfl,ho⟩,hl⟩
section
variable {prog:Program} {w:World} {A:Around} {E:Value→Shared→Prop} {s:Shared} {K:PySem.W.Frag} {x dx C f:Addr} {mA:Str→Option Value} {name:Str} {v:Value}
end
theorem uo.some_of {v:V} {o:Option Value} (r:uo (some v) o):∃u,o=some u∧RelV v u:=by
 cases o with
 | none=>exact (show False from r).elim
 | some u=>exact ⟨u,rfl,r⟩
section
variable {P:Program} {w:World} {H H':Hp} {h h':Heap} {a C dx:Addr} {fs fs':List (Str×V)}
theorem JV (hok:rN P w H h) (e:H a=some (.ins C dx fs)):∃mA,WY h a dx C mA∧(∀f,uo (fs.lookup f) (mA f))∧PySem.Within mA (fs.map (·.1))∧fs.length≤1000∧H dx=some (.own a):=by
 obtain ⟨d,z,ne,ob,mA,n,r,q⟩:=(show cB P w H h a (.ins C dx fs) from hok a _ e)
 exact ⟨mA,⟨ob,n,ne⟩,r,q,z,d⟩
end
structure Cls (K:PySem.W.Frag) (C:Addr):Prop where
 pg:PySem.W.plainGet K C Str.empty=true
 hd:PySem.W.hasDictIn K C=true
 po:PySem.W.plainOver K C=true
 sa:PySem.W.findIn K (.ref C) "__setattr__"=some (some (.builtin "object.__setattr__"))
theorem Cls.get {K:PySem.W.Frag} {C:Addr} (c:Cls K C) (f:Str):PySem.W.plainGet K C f=true:=c.pg
def OJ (K:PySem.W.Frag) (C:Addr) (f:Str):Prop:=PySem.W.findIn K (.ref C) f=some none
theorem OJ.taker {K:PySem.W.Frag} {C:Addr} {f:Str} (n:OJ K C f):PySem.W.takerIn K C f=some none:=by
 unfold PySem.W.takerIn;rw [show PySem.W.findIn K (.ref C) f=some none from n];rfl
structure Con (K:PySem.W.Frag) (C:Addr) (f:Str) (v:V) (u:Value):Prop where
 at_:PySem.W.findIn K (.ref C) f=some (some u)
 rel:RelV v u
 get:PySem.W.specialIn K u "__get__"=some none
 cp:PySem.W.copiedNames.contains f=false
structure Meth (K:PySem.W.Frag) (C:Addr) (m:Str) (f:Addr):Prop where
 at_:PySem.W.findIn K (.ref C) m=some (some (.ref f))
 fn:PySem.W.isFn K (.ref f)=true
 kp:PySem.W.keepIn K (.ref f)=true
section
variable {X:Cx} {pins:List (Addr×Obj)} {σ:St} {H:Hp} {s:Shared} {a C dx:Addr} {fs:List (Str×V)} {f:Str} {v:V} {A:Around} {E:Value→Shared→Prop}
end
section
variable {X:Cx} {o e value:Expr} {f:Str} {pos pos' tpos:Pos} {ta tv:TE}
end
section
variable {X:Cx} {pins:List (Addr×Obj)} {σ:St} {H:Hp} {s:Shared} {A:Around} {E:Value→Shared→Prop} {Q:Value→Shared→Prop} {c:Value} {b:Bool}
inductive oG (K:PySem.W.Frag) (H:Hp):V→Value→Prop where
 | non:oG K H .non (.type "NoneType")
 | bl (x:Bool):oG K H (.bl x) (.type "bool")
 | int (i:Int):oG K H (.int i) (.type "int")
 | str (x:Str):oG K H (.str x) (.type "str")
 | flt (x:UInt64):oG K H (.flt x) (.type "float")
 | lst {a:Addr} {xs:List V} (e:H a=some (.lst xs)):oG K H (.ref a) (.type "list")
 | DG {a:Addr} {o:Obj} {xs:List V} (e:H a=some (.DG o (.lst xs))):oG K H (.ref a) (.type "list")
 | tup {a:Addr} {xs:List V} (e:H a=some (.tup xs)):oG K H (.ref a) (.type "tuple")
 | dK {a:Addr} {kvs:List (Key×V)} (e:H a=some (.dK kvs)):oG K H (.ref a) (.type "dict")
 | dT {a:Addr} {kvs:List (List Key×V)} (e:H a=some (.dT kvs)):oG K H (.ref a) (.type "dict")
 | ins {a C dx:Addr} {fs:List (Str×V)} (e:H a=some (.ins C dx fs)) (cl:Cls K C) (ha:PySem.W.findIn K (.ref C) "__class__"=some (some (.builtin "object.__class__")))
   (hn:PySem.W.specialIn K (.builtin "object.__class__") "__get__"=some (some (.builtin "getset_descriptor.__get__"))) (htk:PySem.W.takesIn K (.builtin "object.__class__")=some true)
   (hm:PySem.W.mroIn K C (.type "object")=some true):oG K H (.ref a) (.ref C)
theorem Mi {x:V} {u t:Value} (I:Inv X pins σ H s) (rx:RelV x u) (ty:oG X.K H x t) (e:PySem.W.kitOne X.K t c=some b) (h:∀tk,Q (.bool b) { s with toks:=tk }):
  wpAny (model X.prog X.w) A (call (.builtin "isinstance") [u,c]) Q E s:=by
 cases ty with
 | non=>cases (show u=Value.none from rx);exact PySem.W.kia_one PySem.W.kitx_none I.uh True.intro e (fun z=>nomatch z) h
 | bl y=>cases (show u=Value.bool y from rx);exact PySem.W.kia_one PySem.W.kitx_bool I.uh True.intro e (fun z=>nomatch z) h
 | int i=>obtain ⟨t,q⟩:=(show ∃t,u=Value.int i t from rx);cases q;exact PySem.W.kia_one PySem.W.kitx_int I.uh True.intro e (fun z=>nomatch z) h
 | str y=>obtain ⟨t,q⟩:=(show ∃t,u=Value.str y t from rx);cases q;exact PySem.W.kia_one PySem.W.kitx_str I.uh True.intro e (fun z=>nomatch z) h
 | flt y=>obtain ⟨t,q⟩:=(show ∃t,u=Value.float y t from rx);cases q;exact PySem.W.kia_one PySem.W.kitx_float I.uh True.intro e (fun z=>nomatch z) h
 | @lst a xs ea=>
  cases (show u=Value.ref a from rx);obtain ⟨_,_,n,_,h1⟩:=(show cB X.prog X.w H s.heap a (.lst xs) from I.hok a _ ea)
  exact PySem.W.kia_one PySem.W.kitx_list I.uh ⟨_,h1,rfl⟩ e (fun z=>nomatch z) h
 | @DG a ob xs ea=>
  cases (show u=Value.ref a from rx);obtain ⟨_,_,_,n,_,h1⟩:=(show cB X.prog X.w H s.heap a (.DG ob (.lst xs)) from I.hok a _ ea)
  exact PySem.W.kia_one PySem.W.kitx_list I.uh ⟨_,h1,rfl⟩ e (fun z=>nomatch z) h
 | @tup a xs ea=>
  cases (show u=Value.ref a from rx);obtain ⟨_,_,_,p⟩:=(show cB X.prog X.w H s.heap a (.tup xs) from I.hok a _ ea)
  obtain ⟨o,h1,h2,_⟩:=p;exact PySem.W.kia_one PySem.W.kitx_tuple I.uh ⟨o,h1,h2⟩ e (fun z=>nomatch z) h
 | @dK a kvs ea=>
  cases (show u=Value.ref a from rx);obtain ⟨_,_,vs,_,p⟩:=(show cB X.prog X.w H s.heap a (.dK kvs) from I.hok a _ ea)
  obtain ⟨o,es,ep,h1,h2,_⟩:=p;exact PySem.W.kia_one PySem.W.kitx_dict I.uh ⟨o,h1,h2.1⟩ e (fun z=>nomatch z) h
 | @dT a kvs ea=>
  cases (show u=Value.ref a from rx);obtain ⟨_,_,xs,_,o,es,ep,h1,h2,_⟩:=(show cB X.prog X.w H s.heap a (.dT kvs) from I.hok a _ ea)
  exact PySem.W.kia_one PySem.W.kitx_dict I.uh ⟨o,h1,h2.1⟩ e (fun z=>nomatch z) h
 | @ins a C dx fs ea cl ha hn htk hm=>
  cases (show u=Value.ref a from rx);obtain ⟨mA,O,_⟩:=JV I.hok ea;obtain ⟨od,J,_⟩:=O.look;exact PySem.W.kia_one (PySem.W.kitx_own (cl.get _) cl.hd ha hn htk hm) I.uh J e (fun z=>nomatch z) h
end
structure iz (k:Nat) (A:Around):Prop where
 hd:A.handled=none
 dp:A.depth + 3 * k + 5 < recursionLimit
 un:A.units + 16 * k + 200 < cLine
 gd:A.guards=some []
theorem iz.mono {j k:Nat} {A:Around} (r:iz k A) (h:j≤k):iz j A:=⟨r.hd,by have:=r.dp;omega,by have:=r.un;omega,r.gd⟩
theorem iz.deeper {k:Nat} {A:Around} (r:iz (k + 1) A) (env:Env):iz k (A.deeper env):=
 ⟨r.hd,by have:=r.dp;show A.depth + 1 + 3 * k + 5 < _;omega,by have:=r.un;show A.units + 3 + 16 * k + 200 < _;omega,r.gd⟩
theorem iz.in1 {k:Nat} {A:Around} (r:iz (k + 1) A):iz k A.in1:=
 ⟨r.hd,by have:=r.dp;show A.depth + 3 * k + 5 < _;omega,by have:=r.un;show A.units + 1 + 16 * k + 200 < _;omega,r.gd⟩
theorem iz.depth {k:Nat} {A:Around} (r:iz k A):A.depth < recursionLimit:=by have:=r.dp;omega
theorem iz.units {k:Nat} {A:Around} (r:iz k A):A.units + 64 < cLine:=by have:=r.un;omega
theorem iz.Hz {k:Nat} {A:Around} (r:iz k A):A.units < cLine:=by have:=r.un;omega
def abd:TA:=fun _ H Q=>Q [] H
def Zi (ta:TE) (tr:TA):TA:=fun σ H Q=>ta σ H fun x H1=>tr σ H1 fun xs H2=>Q (x::xs) H2
section
variable {X:Cx} {e:Expr} {es:List Expr} {te:TE} {t:TA} {pos:Pos}
theorem jH:PA X [] abd:=fun _ _ _ _ H Q I h=>Calls.spliced_nil ⟨[],H,I,.nil,h⟩
theorem dZ (ha:PE X e te) (hr:PA X es t) (hs:starEach (e::es) X.env=(false,eval e X.env)::starEach es X.env:=by rfl):PA X (e::es) (Zi te t):=by
 intro pos pins s σ H Q I h;rw [hs];show wpAny _ _ (spliced ((false,eval e X.env)::backTo pos (starEach es X.env))) _ _ s;refine Calls.spliced_cons (cX (ha pins s σ H _ I h) fun u s1 aZ=>?_);obtain ⟨x,H1,I1,r1,q1⟩:=aZ;exact cX (hr pos pins s1 σ H1 _ I1 q1) fun us s2 ⟨xs,H2,I2,r2,q2⟩=>⟨x::xs,H2,I2,.cons r1 r2,q2⟩
def abe (t:TA):TE:=fun σ H Q=>t σ H fun xs H1=>xs.length≤sizeLine∧∀p,H1 p=none→Q (.ref p) (upd H1 p (.tup xs))
def abf (t:TA):TE:=fun σ H Q=>t σ H fun xs H1=>xs.length≤sizeLine∧∀p,H1 p=none→Q (.ref p) (upd H1 p (.lst xs))
theorem HB {x1} (h:PA X es t):PE X (.Tuple es x1 pos) (abe t):=by
 intro pins s σ H Q I hq;refine wpAny_Tuple_spliced (cX (h pos pins s σ H _ I hq) fun us s1 ⟨xs,H1,I1,r,z,q⟩=>⟨by rw [←r.length];exact z,?_⟩);have hf:H1 s1.heap.objs.size=none:=I1.hok.fresh (Nat.le_refl _);refine ⟨.ref s1.heap.objs.size,upd H1 s1.heap.objs.size (.tup xs),I1.laid (t':=s1.toks) (fun b u e=>Heap.get?_push_of_some _ e) (Nat.le_refl _) ?_,rfl,q _ hf⟩;exact ⟨z,us,r,⟨_,Heap.get?_push_size _ rfl,rfl,_,rfl⟩⟩
theorem W0 (h:PA X es t):PE X (.List es pos) (abf t):=by
 intro pins s σ H Q I hq;refine wpAny_List_spliced (cX (h pos pins s σ H _ I hq) fun us s1 ⟨xs,H1,I1,r,z,q⟩=>⟨by rw [←r.length];exact z,?_⟩);have hf:H1 s1.heap.objs.size=none:=I1.hok.fresh (Nat.le_refl _);refine ⟨.ref s1.heap.objs.size,upd H1 s1.heap.objs.size (.lst xs),I1.laid (t':=s1.toks) (fun b u e=>Heap.get?_push_of_some _ e) (Nat.le_refl _) ?_,rfl,q _ hf⟩;exact ⟨z,us,0,r,Heap.get?_push_size _ rfl⟩
end
abbrev Sp:=List V→Hp→VK→XK→Prop
abbrev Mj:=List Env→Hp→Shared→XK→Value→Shared→Prop
structure HD (P:Program) (w:World) (K:PySem.W.Frag) (mg:Str→Option Value) (base:Heap) (A:Around) (outer:List Env) (s:Shared) (H:Hp):Prop where
 frames:A.frames=some outer
 mod:Mod K mg base
 bs:∀b o,base.get? b=some o→s.heap.get? b=some o∧H b=none
 Sv:base.objs.size≤s.heap.objs.size
 vH:s.heap.FunFrames base outer
 Wm:∀b∈frs outer,H b=none
 hok:rN P w H s.heap
 bare:AllBare s.gens
def CE (outer:List Env) (P:Program) (w:World) (H:Hp) (s:Shared) (Q:VK) (u:Value) (s':Shared):Prop:=
 ∃v H',s'.os=s.os∧AllBare s'.gens∧Un (frs outer) [] H H' s.heap s'.heap∧rN P w H' s'.heap∧RelV v u∧Q v H'
def CR (CX:Mj) (outer:List Env) (P:Program) (w:World) (H:Hp) (s:Shared) (Q:VK) (E:XK) (r:Result) (s':Shared):Prop:=
 match r with
 | .ok (.ret u)=>CE outer P w H s Q u s'
 | .ok _=>False
 | .error e=>CX outer H s E e s'
structure cZ (P:Program) (w:World) (K:PySem.W.Frag) (mg:Str→Option Value) (base:Heap) (CX:Mj) (k:Nat) (f:Addr) (fd:FuncData) (ps:List Str) (sp:Sp):Prop where
 len:∀vs H Q E,sp vs H Q E→vs.length=ps.length
 run:∀(A:Around) (outer:List Env) (s:Shared) (H:Hp) (args:Args) (us:List Value) (vs:List V) (Q:VK) (E:XK),iz k A→HD P w K mg base A outer s H→BindsTo s fd args (ps.zip us)→Vals vs us→sp vs H Q E→
  codeAny (model P w) A (.call (.ref f) args) (CR CX outer P w H s Q E) s
theorem cZ.mono {P:Program} {w:World} {K:PySem.W.Frag} {mg:Str→Option Value} {base:Heap} {CX:Mj} {j k:Nat} {f:Addr} {fd:FuncData} {ps:List Str} {sp:Sp} (F:cZ P w K mg base CX j f fd ps sp) (h:j≤k):
  cZ P w K mg base CX k f fd ps sp:=⟨F.len,fun A outer s H args us vs Q E hr=>F.run A outer s H args us vs Q E (hr.mono h)⟩
theorem cZ.imp {P:Program} {w:World} {K:PySem.W.Frag} {mg:Str→Option Value} {base:Heap} {CX:Mj} {k:Nat} {f:Addr} {fd:FuncData} {ps:List Str} {sp sp':Sp} (F:cZ P w K mg base CX k f fd ps sp)
  (h:∀vs H Q E,sp' vs H Q E→sp vs H Q E):cZ P w K mg base CX k f fd ps sp':=
 ⟨fun vs H Q E q=>F.len vs H Q E (h _ _ _ _ q),fun A outer s H args us vs Q E hr he hb hv hs=>F.run A outer s H args us vs Q E hr he hb hv (h _ _ _ _ hs)⟩
theorem HD.in1 {P:Program} {w:World} {K:PySem.W.Frag} {mg:Str→Option Value} {base:Heap} {A:Around} {outer:List Env} {s:Shared} {H:Hp} (e:HD P w K mg base A outer s H):
  HD P w K mg base A.in1 outer s H:=⟨e.frames,e.mod,e.bs,e.Sv,e.vH,e.Wm,e.hok,e.bare⟩
section
variable {X:Cx} {pins:List (Addr×Obj)} {σ:St} {H:Hp} {s s':Shared}
theorem Inv.env0 (I:Inv X pins σ H s):HD X.prog X.w X.K X.mg X.base X.A X.stack s H:=
 ⟨I.ok.frames,I.ok.mod,I.bs,Nat.le_trans I.ok.Sv I.sz,I.stack,I.JN,I.hok,I.bare⟩
theorem Inv.after {Q:VK} {u:Value} (I:Inv X pins σ H s) (h:CE X.stack X.prog X.w H s Q u s'):EP X pins σ Q u s':=by
 obtain ⟨v,H',os,bare,un,hok,r,q⟩:=h;obtain ⟨hh,g,d,t,os'⟩:=s';obtain rfl:os'=s.os:=os;exact ⟨v,H',I.call (h':=hh) (g':=g) (d':=d) (t':=t) (ch:=[]) un hok bare (fun b z=>absurd z (by simp)),r,q⟩
end
def O1 (sp:Sp) (Vy:List V) (E:XK) (t:TA):TE:=fun σ H Q=>t σ H fun vs H1=>sp (vs++Vy) H1 Q E
def Binds (K:PySem.W.Frag) (fd:FuncData) (ps:List Str) (ds:List Value):Prop:=
 ∀(s:Shared) (us:List Value),K.In s.heap→(us++ds).length=ps.length→BindsTo s fd ⟨us,[]⟩ (ps.zip (us++ds))
theorem Binds.all {K:PySem.W.Frag} {fd:FuncData} {ps:List Str} (h:∀us:List Value,us.length=ps.length→bindArgs fd ⟨us,[]⟩=pure (ps.zip us)):Binds K fd ps []:=fun s us _ hl=>by
 rw [List.append_nil] at hl ⊢;exact .of_eq (h us hl)
def Passes (CX:Mj) (X:Cx) (E:XK):Prop:=∀(pins:List (Addr×Obj)) (σ:St) (H:Hp) (s:Shared) (e:Value) (s':Shared),Inv X pins σ H s→CX X.stack H s E e s'→X.xe e s'
section
variable {X:Cx} {CX:Mj} {k:Nat} {f C:Addr} {fd:FuncData} {ps:List Str} {sp:Sp} {Vy:List V} {ds:List Value} {E:XK} {x m:Str} {p pos apos:Pos} {e o:Expr} {es:List Expr} {ta:TE} {t:TA}
theorem W2 {pins:List (Addr×Obj)} {σ:St} {H:Hp} {s:Shared} {Q:VK} {us:List Value} {vs:List V} (F:cZ X.prog X.w X.K X.mg X.base CX k f fd ps sp) (hr:iz k X.A) (hb:Binds X.K fd ps ds) (hd:Vals Vy ds) (hx:Passes CX X E)
  (I:Inv X pins σ H s) (r:Vals vs us) (h:sp (vs++Vy) H Q E):wpAny (model X.prog X.w) X.A (call (.ref f) us) (EP X pins σ Q) X.xe s:=by
 have r2:Vals (vs++Vy) (us++ds):=r.append hd;have hl:(us++ds).length=ps.length:=by rw [←r2.length];exact F.len _ _ _ _ h
 refine wpAny_call (codeAny_mono (F.run X.A X.stack s H ⟨us,[]⟩ (us++ds) (vs++Vy) Q E hr I.env0 (hb s us I.uh hl) r2 h) fun r s' hq=>?_);cases r with
 | error e=>exact hx pins σ H s e s' I hq
 | ok fl=>
  cases fl with
  | ret u=>exact I.after hq
  | next=>exact False.elim hq
  | brk=>exact False.elim hq
  | cont=>exact False.elim hq
theorem Th (F:cZ X.prog X.w X.K X.mg X.base CX k f fd ps sp) (hr:iz k X.A) (hg:Gl X x) (hm:X.mg x=some (.ref f)) (hk:PySem.W.keepIn X.K (.ref f)=true) (hb:Binds X.K fd ps ds) (hd:Vals Vy ds) (hx:Passes CX X E)
  (ha:PA X (e::es) t) (hdb:(x==("__debug__":Str))=false:=by decide) (he:starEach (e::es) X.env=(false,eval e X.env)::starEach es X.env:=by rfl) (hpl:(backTo pos (starEach es X.env)).any (·.1)=false:=by rfl):
  PE X (.Call (.Name x p) (e::es) [] pos) (O1 sp Vy E t):=by
 intro pins s σ H Q I h;refine wpAny_Call_Name_kw (S7 I hg hm ?_ hdb);refine PySem.W.callWith_K (h₀:=X.base) I.ok.mod.kin hk (cX (ha pos pins s σ H _ I h) fun us s1 ⟨vs,H1,I1,r,q⟩=>⟨I1.uh,?_⟩) he hpl;exact W2 F hr hb hd hx I1 r q
structure Mk (K:PySem.W.Frag) (C f:Addr):Prop where
 makes:PySem.W.makesIn K C=true
 init:PySem.W.findIn K (.ref C) "__init__"=some (some (.ref f))
 fn:PySem.W.isFn K (.ref f)=true
 kp:PySem.W.keepIn K (.ref C)=true
end
section
variable {X:Cx} {CX:Mj} {k:Nat} {f C:Addr} {fd:FuncData} {ps ks:List Str} {sp:Sp} {E:XK} {x m:Str} {p pos apos kpos:Pos} {e o:Expr} {es:List Expr} {kws:List Keyword} {te ta:TE} {t tk:TA} {nm:Option Str}
structure abg (K:PySem.W.Frag) (fd:FuncData) (ps ks:List Str) (g:List Value→List Value→List Value) (gV:List V→List V→List V):Prop where
 to:∀(s:Shared) (us ws:List Value),K.In s.heap→(g us ws).length=ps.length→BindsTo s fd ⟨us,ks.zip ws⟩ (ps.zip (g us ws))
 rel:∀{vs:List V} {us:List Value} {zs:List V} {ws:List Value},Vals vs us→Vals zs ws→Vals (gV vs zs) (g us ws)
variable {g:List Value→List Value→List Value} {gV:List V→List V→List V}
end
structure bO (N P:List Str) (sc:Scope):Prop where
 kind:sc.kind=.function
 co:sc.isCoroutine=false
 gen:sc.isGenerator=false
 nd:N.Nodup
 pre:N.take P.length=P
 par:∀x∈P,sc.names.lookup x=some .local∨sc.names.lookup x=some .cell
 W3:∀y∈sc.names,y.2≠.free
theorem zN {kindOf:Str→Option NameKind} {x:Str}:∀{binds:List (Str×Value)} {m:Str→Option Value},(∀v,(x,v)∉binds)→bindL kindOf binds m x=m x
 | [],_,_=>rfl
 | (n,v)::r,m,h=>by
  unfold bindL;rw [zN fun w hw=>h w (List.mem_cons_of_mem _ hw)];split
  ·have:x≠n:=by rintro rfl;exact h v List.mem_cons_self
   simp [this]
  ·rfl
theorem zO {kindOf:Str→Option NameKind} {x:Str}:∀{binds:List (Str×Value)} {m:Str→Option Value},(∀v,(x,v)∉binds)→bindC kindOf binds m x=m x
 | [],_,_=>rfl
 | (n,v)::r,m,h=>by
  unfold bindC;rw [zO fun w hw=>h w (List.mem_cons_of_mem _ hw)];split
  ·rfl
  ·have:x≠n:=by rintro rfl;exact h v List.mem_cons_self
   simp [this]
theorem zP {kindOf:Str→Option NameKind} {x:Str} {v:Value}:∀{P:List Str} {vs:List Value} {i:Nat} {m:Str→Option Value},P.Nodup→P[i]?=some x→vs[i]?=some v→kindOf x=some .local→
  bindL kindOf (P.zip vs) m x=some v
 | [],_,_,_,_,h,_,_=>by simp at h
 | _::_,[],_,_,_,_,h,_=>by simp at h
 | p::P,w::vs,0,m,nd,h1,h2,hk=>by
  simp at h1 h2;subst h1;subst h2;show bindL kindOf ((p,w)::P.zip vs) m p=_;unfold bindL;rw [zN fun v hv=>(List.nodup_cons.mp nd).1 (List.of_mem_zip hv).1,if_pos hk];simp
 | p::P,w::vs,i + 1,m,nd,h1,h2,hk=>by
  show bindL kindOf ((p,w)::P.zip vs) m x=_;unfold bindL;exact zP (i:=i) (List.nodup_cons.mp nd).2 (by simpa using h1) (by simpa using h2) hk
theorem zQ {kindOf:Str→Option NameKind} {x:Str} {v:Value}:∀{P:List Str} {vs:List Value} {i:Nat} {m:Str→Option Value},P.Nodup→P[i]?=some x→vs[i]?=some v→kindOf x≠some .local→
  bindC kindOf (P.zip vs) m x=some v
 | [],_,_,_,_,h,_,_=>by simp at h
 | _::_,[],_,_,_,_,h,_=>by simp at h
 | p::P,w::vs,0,m,nd,h1,h2,hk=>by
  simp at h1 h2;subst h1;subst h2;show bindC kindOf ((p,w)::P.zip vs) m p=_;unfold bindC;rw [zO fun v hv=>(List.nodup_cons.mp nd).1 (List.of_mem_zip hv).1,if_neg hk];simp
 | p::P,w::vs,i + 1,m,nd,h1,h2,hk=>by
  show bindC kindOf ((p,w)::P.zip vs) m x=_;unfold bindC;exact zQ (i:=i) (List.nodup_cons.mp nd).2 (by simpa using h1) (by simpa using h2) hk
def start (N:List Str) (vs:List V):St:=vs.map some++List.replicate (N.length - vs.length) none
def HF (CX:Mj) (P:Program) (w:World) (K:PySem.W.Frag) (mg:Str→Option Value) (base:Heap) (N:List Str) (qual:Str) (scope:Scope) (f:Addr) (cd:Value) (A:Around) (outer:List Env) (s:Shared) (H:Hp) (E:XK):Cx where
 prog:=P
 w:=w
 K:=K
 mg:=mg
 base:=base
 A:=A.deeper (envOfC qual scope s.heap.objs.size f cd)
 N:=N
 s₀:=s
 H₀:=H
 env:=envOfC qual scope s.heap.objs.size f cd
 outer:=outer
 stack:=envOfC qual scope s.heap.objs.size f cd::outer
 ex:=[]
 calm:=true
 fn:=fun _=>true
 pn:=[]
 xe:=fun e s'=>wpAny (model P w) (A.deeper (envOfC qual scope s.heap.objs.size f cd)) (leaving (envOfC qual scope s.heap.objs.size f cd) e) (fun _ s''=>CX outer H s E e s'') (fun e' s''=>CX outer H s E e' s'') s'
theorem DX {sc:Scope} {n:Nat} {x:Str} (h:sc.names.lookup x=some .cell):∃c,(cellsFrom n sc.names []).lookup x=some c:=by
 have q:=PySem.W.cellsFrom_some sc.names n [] (.inl h);exact Option.isSome_iff_exists.mp q
theorem Ml {CX:Mj} {P:Program} {w:World} {K:PySem.W.Frag} {mg:Str→Option Value} {base:Heap} {N ps:List Str} {qual:Str} {scope:Scope} {f:Addr} {cd:Value} {A:Around} {outer:List Env} {s s1:Shared} {H:Hp} {E:XK} {us:List Value} {vs:List V}
  (S:bO N ps scope) (hd:A.handled=none) (e0:HD P w K mg base A outer s H) (hl:vs.length=ps.length) (r:Vals vs us)
  (x:InCallC s s.heap.objs.size (bindL (envOfC qual scope s.heap.objs.size f cd).kindOf (ps.zip us) fun _=>none) (cellsFrom (s.heap.objs.size + 1) scope.names []) (bindC (envOfC qual scope s.heap.objs.size f cd).kindOf (ps.zip us) fun _=>none) s1):
  Inv (HF CX P w K mg base N qual scope f cd A outer s H E) [] (start N vs) H s1:=by
 have hpl:ps.length≤N.length:=by have:=congrArg List.length S.pre;rw [List.length_take] at this;omega
 obtain ⟨h1,tk,rfl,hk⟩:=x.done;have Zj:∀b:Addr,b∉(HF CX P w K mg base N qual scope f cd A outer s H E).ex:=fun b z=>absurd (show b∈([]:List Addr) from z) (by simp)
 refine ⟨⟨e0.mod,S.kind,rfl,rfl,Nat.le_refl _,fun y z c h1 h2=>?_,fun y hy=>?_,fun y c _ h=>?_,fun _=>hd,Around.frames_deeper e0.frames,.inr ⟨rfl,rfl⟩,fun b z=>absurd z (Zj b),e0.bs,e0.Sv,fun b _ _=>Zj b,fun b z=>absurd z (Zj b),e0.vH,e0.Wm⟩,
  rfl,e0.bare,Un.kept hk,⟨_,x.toInCall.ns,fun i y v h1 h2 h3=>?_⟩,fun y c h=>⟨_,x.cell y c h⟩,e0.hok.fresh (Nat.le_refl _),fun y c h=>?_,fun p hp=>absurd (show p∈([]:List (Addr×Obj)) from hp) (by simp),e0.hok.kept hk,?_⟩
 ·exact name_of_addr x.apart (PySem.mem_of_lookup h1) (PySem.mem_of_lookup h2)
 ·have hy:scope.names.lookup y=some .cell∨scope.names.lookup y=some .free:=hy;rcases hy with hy | hy
  ·exact DX hy
  ·exact absurd rfl (S.W3 _ (PySem.mem_of_lookup hy))
 ·exact Nat.le_of_lt (x.above y c (PySem.mem_of_lookup h))
 ·have hi:i < vs.length:=by
   unfold start at h2;by_cases hi:i < vs.length
   ·exact hi
   ·rw [List.getElem?_append_right (by simpa using hi)] at h2;rw [List.getElem?_replicate] at h2;split at h2 <;> cases h2
  have ha:vs[i]?=some v:=by
   unfold start at h2;rw [List.getElem?_append_left (by simpa using hi),List.getElem?_map] at h2;cases e:vs[i]? with
   | none=>rw [e] at h2;cases h2
   | some a=>rw [e] at h2;cases h2;rfl
  obtain ⟨u,hu,rv⟩:=r.get ha;have hp:ps[i]?=some y:=by
   rw [←S.pre,List.getElem?_take_of_lt (by omega)];exact h1
  have ndP:ps.Nodup:=by rw [←S.pre];exact S.nd.sublist (List.take_sublist _ _)
  refine ⟨u,rv,?_⟩;rcases S.par y (List.mem_of_getElem? hp) with k | k
  ·exact .inl ⟨k,zP ndP hp hu k⟩
  ·obtain ⟨c,e⟩:=DX (n:=s.heap.objs.size + 1) k;refine .inr ⟨.inl k,c,e,?_⟩;have q:=x.cell y c e;rw [zQ ndP hp hu (by show scope.names.lookup y≠_;rw [k];decide)] at q;exact q
 ·exact e0.hok.fresh (Nat.le_of_lt (x.above y c (PySem.mem_of_lookup h)))
 ·unfold start;show _=N.length;rw [List.length_append,List.length_map,List.length_replicate];omega
theorem Zk {CX:Mj} {P:Program} {w:World} {K:PySem.W.Frag} {mg:Str→Option Value} {base:Heap} {k:Nat} {f:Addr} {name qual:Str} {params:Arguments} {body:List Stmt} {scope:Scope} {dV kV doc pm cdv ct oc:Value} {an od:Option Addr}
  {osl:Array (Option Value)} {N ps:List Str} {sp:Sp} (lk:K.lookup f=some ⟨oc,od,.func (PySem.W.fnOf name qual params body scope dV kV doc pm an cdv ct),osl⟩) (hcd:PySem.W.codeIn K cdv qual=true) (S:bO N ps scope)
  (len:∀vs H Q E,sp vs H Q E→vs.length=ps.length)
  (hbody:∀(A:Around) (outer:List Env) (s:Shared) (H:Hp) (vs:List V) (Q:VK) (E:XK),iz k (A.deeper (envOfC qual scope s.heap.objs.size f cdv))→sp vs H Q E→
   ∃t,vI (HF CX P w K mg base N qual scope f cdv A outer s H E) body t∧t { nx:=fun _ H'=>Q .non H',rt:=Q } (start N vs) H):
  cZ P w K mg base CX (k + 1) f (PySem.W.fnOf name qual params body scope dV kV doc pm an cdv ct) ps sp:=by
 refine ⟨len,fun A outer s H args us vs Q E hr e0 hb r hsp=>?_⟩;have hl:=len _ _ _ _ hsp;have KX:K.In s.heap:=e0.mod.kin.keeps fun b o e=>(e0.bs b o e).1
 have lim:s.heap.NoLimit:=e0.mod.nolimit.keeps fun b o e=>(e0.bs b o e).1
 have hkind:∀y∈ps.zip us,scope.names.lookup y.1=some .local∨(scope.names.lookup y.1=some .cell∧((cellsFrom (s.heap.objs.size + 1) scope.names []).lookup y.1).isSome=true):=fun ⟨n,v⟩ hy=>by
  rcases S.par n (List.of_mem_zip hy).1 with q | q
  ·exact .inl q
  ·exact .inr ⟨q,PySem.W.cellsFrom_some _ _ _ (.inl q)⟩
 refine codeAny_call_function hr.depth (KX _ _ lk) rfl S.co S.gen rfl (PySem.W.codeRec_of KX hcd) (hb _ _ _ _ ?_);refine wpAny_newFunctionEnv_cells S.kind hkind fun env he s1 x=>?_
 subst he;refine ⟨lim.keeps x.toInCall.keep,codeAny_func ?_⟩;obtain ⟨t,ht,hq⟩:=hbody A outer s H vs Q E (hr.deeper _) hsp;have I:Inv (HF CX P w K mg base N qual scope f cdv A outer s H E) [] (start N vs) H s1:=Ml S hr.hd e0 hl r x;refine wpAny_mono (ht [] s1 (start N vs) H _ I hq) (fun fl s' hs=>?_) fun e s' hs=>hs
 have fin:∀{σ':St} {H':Hp} {v:V} {u:Value},Inv (HF CX P w K mg base N qual scope f cdv A outer s H E) [] σ' H' s'→RelV v u→Q v H'→CE outer P w H s Q u s':=
  fun {σ' H' v u} J rv q=>⟨v,H',J.os,J.bare,J.base,J.hok,rv,q⟩
 cases fl with
 | ret u=>
  obtain ⟨v,σ',H',J,rv,q⟩:=hs;exact fin J rv q
 | next=>
  obtain ⟨σ',H',J,q⟩:=hs;exact fin (v:=V.non) (u:=Value.none) J rfl q
 | brk=>
  obtain ⟨_,_,_,q⟩:=hs;exact False.elim q
 | cont=>
  obtain ⟨_,_,_,q⟩:=hs;exact False.elim q
section
variable {X:Cx} {x:Str} {p pos:Pos} {e:Expr} {es:List Expr} {t:TA} {id T:String} {r:List V→Hp→VK→Prop}
def tCB (r:List V→Hp→VK→Prop) (t:TA):TE:=fun σ H Q=>t σ H fun vs H1=>r vs H1 Q
theorem rW (hc:cY X (.builtin id) r) (hg:Gl X x) (hm:X.mg x=none) (hv:bootBuiltins x=some (.builtin id)) (ha:PA X (e::es) t) (hn:x≠"__name__":=by decide) (hdb:(x==("__debug__":Str))=false:=by decide)
  (he:starEach (e::es) X.env=(false,eval e X.env)::starEach es X.env:=by rfl) (hpl:(backTo pos (starEach es X.env)).any (·.1)=false:=by rfl):PE X (.Call (.Name x p) (e::es) [] pos) (tCB r t):=by
 intro pins s σ H Q I h;refine wpAny_Call_Name_kw (mQ I hg hm hv ?_ hn hdb);exact PyProof.Rows.callWith_builtin1 (cX (ha pos pins s σ H _ I h) fun us s1 ⟨vs,H1,I1,r1,q1⟩=>hc pins s1 σ H1 vs us Q I1 r1 q1) he hpl
theorem Mm (hc:cY X (.type T) r) (hg:Gl X x) (hm:X.mg x=none) (hv:bootBuiltins x=some (.type T)) (ha:PA X (e::es) t) (hn:x≠"__name__":=by decide) (hdb:(x==("__debug__":Str))=false:=by decide)
  (he:starEach (e::es) X.env=(false,eval e X.env)::starEach es X.env:=by rfl) (hpl:(backTo pos (starEach es X.env)).any (·.1)=false:=by rfl):PE X (.Call (.Name x p) (e::es) [] pos) (tCB r t):=by
 intro pins s σ H Q I h;refine wpAny_Call_Name_kw (mQ I hg hm hv ?_ hn hdb);exact PyProof.Rows.callWith_type1 (cX (ha pos pins s σ H _ I h) fun us s1 ⟨vs,H1,I1,r1,q1⟩=>hc pins s1 σ H1 vs us Q I1 r1 q1) he hpl
end
end L2
namespace HT
open PySem PyProof.Rows
section
open PySem.SeqAt
open PySem.AutoSeq1 (wpAny_loadPart')
open PySem.MeetsSeq PySem.MeetsSeq2 PySem.MeetsSeq3
end
section
variable {prog:Program} {w:World} {A:Around} {E:Value→Shared→Prop} {s:Shared}
theorem Ti {t b:Addr} {vs ws:List Value} {Q:Value→Shared→Prop} (ht:IsTup s.heap t vs.toArray) (hb:IsTup s.heap b ws.toArray) (hv:vs≠[])
  (h1:ws=[]→Q (.ref t) s) (h2:ws≠[]→Q (.ref s.heap.objs.size) { s with heap:=s.heap.push { cls:=.type "tuple",data:=.seq (vs++ws).toArray } })
  (hsz:vs.length + ws.length≤sizeLine):wpAny (model prog w) A (binaryOp .Add (.ref t) (.ref b)) Q E s:=by
 obtain ⟨⟨cls,dd,data,sl⟩,ho,hc,n,hd⟩:=id ht;obtain ⟨⟨cls2,dd2,data2,sl2⟩,ho2,hc2,n2,hd2⟩:=id hb;simp only at hc hd hc2 hd2;subst hc hd hc2 hd2;have e:vs.toArray++ws.toArray=(vs++ws).toArray:=by simp
 by_cases hw:ws=[]
 ·exact concat_meets ⟨_,ho,rfl⟩ ⟨_,ho2,rfl⟩ noFill_tuple_add seq_tuple_add PySem.F.slot_tuple_add PySem.F.entry_tuple_add (PySem.F.args_tuple_add_2 _ _)
   (tuple_addW1 t b vs.toArray ws.toArray n n2 dd dd2 sl sl2 (by simpa using hv) (by simp [hw])) ⟨ho,ho2,h1 hw⟩
 ·refine concat_meets ⟨_,ho,rfl⟩ ⟨_,ho2,rfl⟩ noFill_tuple_add seq_tuple_add PySem.F.slot_tuple_add PySem.F.entry_tuple_add (PySem.F.args_tuple_add_2 _ _)
   (tuple_addW2 t b vs.toArray ws.toArray n n2 dd dd2 sl sl2 (by simpa using hv) (by simpa using hw) (by rw [List.size_toArray,List.size_toArray];exact hsz)) ⟨ho,ho2,?_⟩
  rw [e];exact h2 hw
def fJ (n d:Nat):Option Int→Nat
 | none=>d
 | some v=>if v < 0 then (v + (n:Int)).toNat else min v.toNat n
theorem Az (n d k:Nat):fJ n d (some (k:Int))=min k n:=by
 show (if (k:Int) < 0 then ((k:Int) + (n:Int)).toNat else min (k:Int).toNat n)=min k n;rw [if_neg (by omega),Int.toNat_natCast]
theorem W4 (n d:Nat) (hd:d≤n) (o:Option Int):fJ n d o≤n:=by
 cases o with
 | none=>exact hd
 | some v=>
  show (if v < 0 then (v + (n:Int)).toNat else min v.toNat n)≤n;by_cases hv:v < 0
  ·rw [if_pos hv];omega
  ·rw [if_neg hv];exact Nat.min_le_right _ _
theorem JW (v:Int) (n d:Nat):(if v < 0 then max (v + (n:Int)) 0 else min v (n:Int))=((fJ n d (some v):Nat):Int):=by
 show (if v < 0 then max (v + (n:Int)) 0 else min v (n:Int))=(((if v < 0 then (v + (n:Int)).toNat else min v.toNat n):Nat):Int)
 by_cases hv:v < 0
 ·simp only [if_pos hv];omega
 ·simp only [if_neg hv];omega
theorem HH (lo hi:Option Int) (n:Nat):Builtin.Slice.sliceAdjust lo hi 1 (n:Int)=(((fJ n 0 lo:Nat):Int),((fJ n n hi:Nat):Int)):=by
 have h1:¬((1:Int) < 0):=by omega
 unfold Builtin.Slice.sliceAdjust;simp only [h1,if_false];refine Prod.ext ?_ ?_
 ·cases lo with
  | none=>rfl
  | some v=>exact JW v n 0
 ·cases hi with
  | none=>rfl
  | some v=>exact JW v n n
theorem HJ (i j:Nat):Builtin.Slice.slicePlaces (i:Int) (j:Int) 1=j - i:=by
 unfold Builtin.Slice.slicePlaces;have h1:(1:Int) > 0:=by omega
 simp only [h1,if_true,Int.ediv_one];split <;> omega
theorem wK {v:Value} {o:Option Int} {Q:Option Int→Shared→Prop} (p:IsPart v o) (h:Q o s):wpAny (model prog w) A (Builtin.Slice.slicePartIndex v) Q E s:=by
 cases p with
 | none=>exact slicePart_none h
 | int i t=>exact slicePart_int h
theorem lW {sl:Addr} {vl vu:Value} {lo hi:Option Int} {n:Nat} {Q:Int×Int×Nat→Shared→Prop} (hs:s.heap.IsSliceOf sl vl vu .none) (pl:IsPart vl lo) (pu:IsPart vu hi)
  (h:Q (((fJ n 0 lo:Nat):Int),1,fJ n n hi - fJ n 0 lo) s):wpAny (model prog w) A (Builtin.Slice.sliceApplied (.ref sl) (pure (n:Int))) Q E s:=by
 obtain ⟨os,hos,hcs,hds⟩:=id hs;unfold Builtin.Slice.sliceApplied Builtin.Slice.sliceFields;refine wpAny_bind (wpAny_bind (wpAny_field hos hds (x:=vl) rfl (wpAny_bind (wpAny_field hos hds (x:=vu) rfl (wpAny_bind (wpAny_field hos hds (x:=.none) rfl (wpAny_pure ?_)))))));refine wpAny_bind (slicePart_none ?_);show wpAny _ _ (if ((1:Int)==0)=true then _ else _) _ _ s;rw [if_neg (by decide)];refine wpAny_bind (wK pl (wpAny_bind (wK pu (wpAny_bind (wpAny_pure ?_)))));show wpAny _ _ (match Builtin.Slice.sliceAdjust lo hi 1 (n:Int) with | (lo,hi)=>pure (lo,(1:Int),Builtin.Slice.slicePlaces lo hi 1)) _ _ s;rw [HH lo hi n];show wpAny _ _ (pure (((fJ n 0 lo:Nat):Int),(1:Int),Builtin.Slice.slicePlaces ((fJ n 0 lo:Nat):Int) ((fJ n n hi:Nat):Int) 1)) _ _ s;rw [HJ];exact wpAny_pure h
theorem O2 (xs:Array Value) (i k:Nat):((List.range k).filterMap fun (m:Nat)=>xs[((i:Int) + (m:Int) * 1).toNat]?).toArray=((xs.toList.drop i).take k).toArray:=by
 have e:(fun (m:Nat)=>xs[((i:Int) + (m:Int) * 1).toNat]?)=fun m=>xs[i + m]?:=by
  funext m;have:((i:Int) + (m:Int) * 1).toNat=i + m:=by omega
  rw [this]
 rw [e];have:=pick_run xs i k;rw [List.filterMap_map] at this;have e2:((fun x=>xs[x]?) ∘ fun x=>i + x)=fun m=>xs[i + m]?:=rfl
 rw [e2] at this;rw [this]
theorem rY {t sl:Addr} {items:Array Value} {vl vu:Value} {lo hi:Option Int} {Q:Value→Shared→Prop} (ht:IsTup s.heap t items) (hs:s.heap.IsSliceOf sl vl vu .none) (pl:IsPart vl lo) (pu:IsPart vu hi)
  (hw:¬(fJ items.size 0 lo=0∧fJ items.size items.size hi=items.size))
  (h:Q (.ref s.heap.objs.size) { s with heap:=s.heap.push { cls:=.type "tuple",data:=.seq ((items.toList.drop (fJ items.size 0 lo)).take (fJ items.size items.size hi - fJ items.size 0 lo)).toArray } })
  (hsz:items.size≤sizeLine):wpAny (model prog w) A (getItem (.ref t) (.ref sl)) Q E s:=by
 have JX:sizeOk (.seq ((items.toList.drop (fJ items.size 0 lo)).take (fJ items.size items.size hi - fJ items.size 0 lo)).toArray):=by
  show ((items.toList.drop (fJ items.size 0 lo)).take (fJ items.size items.size hi - fJ items.size 0 lo)).toArray.size≤sizeLine;rw [List.size_toArray,List.length_take,List.length_drop,Array.length_toList];omega
 have hj:fJ items.size items.size hi≤items.size:=W4 _ _ (Nat.le_refl _) hi;obtain ⟨os,hos,hcs,hds⟩:=id hs;have hTs:s.TypeIs (.ref sl) "slice":=⟨os,hos,hcs⟩
 unfold getItem
 try with_reducible refine wpAny_holding ?_
 first | refine wpAny_bind (wpAny_pure ?_) | skip
 refine wpAny_bind (wpAny_sequenceKey ht.typeIs (by decide) ?_);refine wpAny_bind (wpAny_callSpecial?_slot (name:=Str.ofString "__getitem__") ht.typeIs PyProof.Rows.slot_tuple_getitem
  (wpAny_call_entry PyProof.Rows.slot_tuple_getitem ht.typeIs entry_tuple_getitem ?_ (args_tuple_getitem _ _)))
 show wpAny _ _ (Builtin.Tuple.tupleItemsOf (.ref t) >>= _) _ _ s;refine wpAny_bind (tupleItemsOf_ ht ?_);refine wpAny_bind (wpAny_typeOf hTs ?_);rw [if_pos (by decide)];refine wpAny_bind (lW hs pl pu ?_);have hno:¬((((fJ items.size 0 lo:Nat):Int)==0&&(1:Int)==1&&(fJ items.size items.size hi - fJ items.size 0 lo)==items.size)=true):=by
  intro q;rw [Bool.and_eq_true,Bool.and_eq_true] at q;have q1:((fJ items.size 0 lo:Nat):Int)=0:=eq_of_beq q.1.1;have q2:fJ items.size items.size hi - fJ items.size 0 lo=items.size:=eq_of_beq q.2;exact hw ⟨by omega,by omega⟩
 show wpAny _ _ (if (((fJ items.size 0 lo:Nat):Int)==0&&(1:Int)==1&&(fJ items.size items.size hi - fJ items.size 0 lo)==items.size)=true then _ else _) _ _ s;rw [if_neg hno,O2]
 first
  | exact wpAny_bind (m:=Builtin.Tuple.tupleExact _) (wpAny_newObj_type (wpAny_pure ⟨_,rfl,wpAny_pure h⟩) JX)
  | exact wpAny_bind (m:=Builtin.Tuple.tupleExact _) (wpAny_newObj_type (wpAny_bind (wpAny_pure (wpAny_pure ⟨_,rfl,wpAny_pure h⟩))) JX)
  | exact wpAny_bind (wpAny_bind (m:=Builtin.Tuple.tupleExact _) (wpAny_newObj_type (wpAny_pure (wpAny_pure ⟨_,rfl,wpAny_pure h⟩)) JX))
  | exact wpAny_bind (wpAny_bind (m:=Builtin.Tuple.tupleExact _) (wpAny_newObj_type (wpAny_pure ⟨_,rfl,wpAny_pure h⟩) JX))
end
end HT
namespace L2
open PySem PySem.Spec PyProof.Rows
abbrev TO:=St→Hp→(Option Int→Hp→Prop)→Prop
def PO (X:Cx) (e:Option Expr) (t:TO):Prop:=
 ∀(pins:List (Addr×Obj)) (s:Shared) (σ:St) (H:Hp) (Q:Option Int→Hp→Prop),Inv X pins σ H s→t σ H Q→
  wpAny (model X.prog X.w) X.A (evalPart e X.env) (fun u s'=>∃o H',Inv X pins σ H' s'∧IsPart u o∧Q o H') X.xe s
def Tj:TO:=fun _ H Q=>Q none H
def Zm (t:TE):TO:=fun σ H Q=>t σ H fun x H1=>∃i,x=.int i∧Q (some i) H1
theorem intsAre_of {ns:List Int}:∀{us:List Value},Vals (ns.map V.int) us→IntsAre us ns:=by
 induction ns with
 | nil=>intro us r;rw [List.map_nil] at r;cases r;exact .nil
 | cons n ns ih=>
  intro us r;rw [List.map_cons] at r;cases r with
  | cons r1 r2=>
   obtain ⟨t,e⟩:=r1;subst e;exact .cons n t (ih r2)
section
variable {X:Cx} {e:Expr} {te:TE} {lo hi:Option Expr} {tl th:TO} {pos p2:Pos}
theorem Tn:PO X none Tj:=by
 intro pins s σ H Q I h;rw [evalPart_none];exact wpAny_pure ⟨none,H,I,.none,h⟩
theorem Tp (h:PE X e te):PO X (some e) (Zm te):=by
 intro pins s σ H Q I hw;rw [evalPart_some];refine cX (h pins s σ H _ I hw) fun u s1 aZ=>?_
 obtain ⟨x,H1,I1,r1,q1⟩:=aZ;obtain ⟨i,rfl,q⟩:=q1;obtain ⟨t,rfl⟩:=r1;exact ⟨some i,H1,I1,.int i t,q⟩
def Tq (X:Cx) (r:V→Option Int→Option Int→Hp→VK→Prop):Prop:=
 ∀(pins:List (Addr×Obj)) (s:Shared) (σ:St) (H:Hp) (x:V) (v vl vu:Value) (lo hi:Option Int) (sl:Addr) (Q:VK),Inv X pins σ H s→RelV x v→s.heap.IsSliceOf sl vl vu .none→IsPart vl lo→IsPart vu hi→r x lo hi H Q→
  ∃T id,typeLookup (.type T) "__getitem__"=pure (some (.builtin id))∧s.TypeIs v T∧wpAny (model X.prog X.w) X.A (getItem v (.ref sl)) (EP X pins σ Q) X.xe s
theorem Tq.or {r r':V→Option Int→Option Int→Hp→VK→Prop} (h:Tq X r) (h':Tq X r'):Tq X (fun x lo hi H Q=>r x lo hi H Q∨r' x lo hi H Q):=by
 intro pins s σ H x v vl vu lo hi sl Q I rx hs pl pu q;rcases q with q | q
 ·exact h pins s σ H x v vl vu lo hi sl Q I rx hs pl pu q
 ·exact h' pins s σ H x v vl vu lo hi sl Q I rx hs pl pu q
def tSl (r:V→Option Int→Option Int→Hp→VK→Prop) (te:TE) (tl th:TO):TE:=fun σ H Q=>te σ H fun x H1=>tl σ H1 fun l H2=>th σ H2 fun u H3=>r x l u H3 Q
theorem O3 {r:V→Option Int→Option Int→Hp→VK→Prop} (hr:Tq X r) (he:PE X e te) (hl:PO X lo tl) (hu:PO X hi th):PE X (.Subscript e (.Slice lo hi none p2) pos) (tSl r te tl th):=by
 intro pins s σ H Q I h;refine Subscript_ (cX (he pins s σ H _ I h) fun v s1 aZ=>?_);obtain ⟨x,H1,I1,r1,q1⟩:=aZ;refine wpAny_Slice (cX (hl pins s1 σ H1 _ I1 q1) fun vl s2 ⟨l,H2,I2,pl,q2⟩=>cX (hu pins s2 σ H2 _ I2 q2) fun vu s3 aZ=>?_);obtain ⟨u,H3,I3,pu,q3⟩:=aZ;rw [evalPart_none];refine wpAny_pure ?_;have I4:Inv X pins σ H3 { s3 with heap:=s3.heap.push { cls:=.type "slice",data:=.fields #[vl,vu,.none] } }:=I3.kept (t':=s3.toks) fun b ob q=>Heap.get?_push_of_some _ q
 obtain ⟨T,id,hT,ht,hg⟩:=hr pins { s3 with heap:=s3.heap.push { cls:=.type "slice",data:=.fields #[vl,vu,.none] } } σ H3 x v vl vu l u s3.heap.objs.size Q I4 r1 (Heap.IsSliceOf.new ..) pl pu q3;show wpAny (model X.prog X.w) X.A (subscriptTail e (.Slice lo hi none p2) v (.ref s3.heap.objs.size)) (EP X pins σ Q) X.xe { s3 with heap:=s3.heap.push { cls:=.type "slice",data:=.fields #[vl,vu,.none] } };exact tail_any (ops:=[.ref s3.heap.objs.size,v]) ht hT hg (by with_unfolding_all rfl)
def wL (xs:List V) (lo hi:Option Int):List V:=(xs.drop (HT.fJ xs.length 0 lo)).take (HT.fJ xs.length xs.length hi - HT.fJ xs.length 0 lo)
theorem vd (xs:List V) (lo hi:Option Int):(wL xs lo hi).length≤xs.length:=by
 unfold wL;rw [List.length_take,List.length_drop];omega
def abi (K:PySem.W.Frag):V→Option Int→Option Int→Hp→VK→Prop:=fun x lo hi H Q=>∃a xs,x=.ref a∧jD K H a xs∧
 ¬(HT.fJ xs.length 0 lo=0∧HT.fJ xs.length xs.length hi=xs.length)∧∀p,H p=none→Q (.ref p) (upd H p (.tup (wL xs lo hi)))
theorem W5:Tq X (abi X.K):=by
 intro pins s σ H x v vl vu lo hi sl Q I rx hs pl pu h;obtain ⟨a,xs,rfl,hx,hw,q⟩:=h;cases rx;obtain ⟨its,r,ht,hz⟩:=I.tuple hx;have hlen:its.toArray.size=xs.length:=by rw [List.size_toArray];exact r.length.symm
 refine ⟨"tuple",_,PyProof.Rows.slot_tuple_getitem.lookup,ht.typeIs,?_⟩;refine HT.rY ht hs pl pu (by rw [hlen];exact hw) ?_ (by rw [hlen];exact hz);rw [hlen];refine ⟨.ref s.heap.objs.size,_,I.laid (t':=s.toks) (o:=.tup (wL xs lo hi)) (fun b ob q=>Heap.get?_push_of_some _ q) (Nat.le_refl _) ?_,rfl,q _ (I.hok.fresh (Nat.le_refl _))⟩;exact ⟨Nat.le_trans (vd xs lo hi) hz,_,(r.drop (HT.fJ xs.length 0 lo)).take (HT.fJ xs.length xs.length hi - HT.fJ xs.length 0 lo),IsTup.new _ _⟩
def Vz (K:PySem.W.Frag):R2:=fun x y H Q=>∃a b xs ys,x=.ref a∧y=.ref b∧jD K H a xs∧jD K H b ys∧xs≠[]∧xs.length + ys.length≤sizeLine∧
 (ys=[]→Q (.ref a) H)∧(ys≠[]→∀p,H p=none→Q (.ref p) (upd H p (.tup (xs++ys))))
theorem Vals.Ba {xs:List V} {us:List Value} (r:Vals xs us):us=[] ↔ xs=[]:=by
 cases r with
 | nil=>simp
 | cons _ _=>simp
theorem Tr:g8 X (binaryOp .Add) (Vz X.K):=by
 intro pins s σ H x y v u Q I rx ry h;obtain ⟨a,b,xs,ys,rfl,rfl,ha,hb,hx,hz,q1,q2⟩:=h;cases rx;cases ry;obtain ⟨its,r1,p1,_⟩:=I.tuple ha;obtain ⟨its2,r2,p2,_⟩:=I.tuple hb;refine HT.Ti p1 p2 (fun z=>hx (r1.Ba.mp z)) (fun z=>⟨.ref a,H,I,rfl,q1 (r2.Ba.mp z)⟩) (fun z=>?_) (by rw [←r1.length,←r2.length];exact hz);refine ⟨.ref s.heap.objs.size,_,I.laid (t':=s.toks) (o:=.tup (xs++ys)) (fun b ob q=>Heap.get?_push_of_some _ q) (Nat.le_refl _) ?_,rfl,q2 (fun w=>z (r2.Ba.mpr w)) _ (I.hok.fresh (Nat.le_refl _))⟩;exact ⟨by rw [List.length_append];exact hz,_,r1.append r2,IsTup.new _ _⟩
end
def HN (n:Nat) (i:Int):Option Nat:=if 0≤i then (if i < n then some i.toNat else none) else if -(n:Int)≤i then some (i + n).toNat else none
def n6 {α:Type} (xs:List α) (i:Int):Option α:=(HN xs.length i).bind fun j=>xs[j]?
theorem JZ {n:Nat} {i:Int} {j:Nat} (h:HN n i=some j):seqIndex? i n=some j∧j < n∧-(n:Int)≤i∧i < n:=by
 unfold HN at h;by_cases h0:0≤i
 ·rw [if_pos h0] at h;by_cases h1:i < n
  ·rw [if_pos h1] at h;have e:i.toNat=j:=Option.some.inj h;exact ⟨by rw [seqIndex_of h0 h1,e],by omega,by omega,h1⟩
  ·rw [if_neg h1] at h;cases h
 ·rw [if_neg h0] at h;by_cases h1:-(n:Int)≤i
  ·rw [if_pos h1] at h;have e:(i + n).toNat=j:=Option.some.inj h;exact ⟨by rw [seqIndex_neg (by omega) h1,e],by omega,h1,by omega⟩
  ·rw [if_neg h1] at h;cases h
theorem Bb {α:Type} {xs:List α} {i:Int} {v:α} (h:n6 xs i=some v):∃j,seqIndex? i xs.length=some j∧xs[j]?=some v∧j < xs.length∧-(xs.length:Int)≤i∧i < xs.length:=by
 unfold n6 at h;cases e:HN xs.length i with
 | none=>rw [e] at h;cases h
 | some j=>
  rw [e] at h;obtain ⟨h1,h2,h3,h4⟩:=JZ e;exact ⟨j,h1,h,h2,h3,h4⟩
theorem j9 {α:Type} {xs:List α} {j:Nat} {v:α} (h:xs[j]?=some v):n6 xs (j:Int)=some v:=by
 have hj:j < xs.length:=(List.getElem?_eq_some_iff.mp h).1;have e:HN xs.length (j:Int)=some j:=by
  unfold HN;rw [if_pos (by omega),if_pos (by omega)];simp
 unfold n6;rw [e];exact h
def vP (b:Expr):Prop:=∀o i,subscripted b false o i=operate [o,i] (getItem o i)
def N8 (X:Cx) (r:R2):Prop:=
 ∀(value slice:Expr) (pins:List (Addr×Obj)) (s:Shared) (σ:St) (H:Hp) (x y:V) (v u:Value) (Q:VK),Inv X pins σ H s→RelV x v→RelV y u→r x y H Q→
  subscripted slice false v u=operate [v,u] (getItem v u)→wpAny (model X.prog X.w) X.A (subscriptTail value slice v u) (EP X pins σ Q) X.xe s
def Yx (X:Cx) (id:String) (r:V→List V→Hp→VK→Prop):Prop:=
 ∀(pins:List (Addr×Obj)) (s:Shared) (σ:St) (H:Hp) (x:V) (xs:List V) (v:Value) (us:List Value) (Q:VK),Inv X pins σ H s→RelV x v→Vals xs us→r x xs H Q→
  wpAny (model X.prog X.w) X.A (call (.builtin id) (v::us)) (EP X pins σ Q) X.xe s
section
variable {X:Cx} {a b:Expr} {ta tb:TE} {pos:Pos}
theorem N8.or {r r':R2} (h:N8 X r) (h':N8 X r'):N8 X (fun x y H Q=>r x y H Q∨r' x y H Q):=by
 intro value slice pins s σ H x y v u Q I rx ry q hs;rcases q with q | q
 ·exact h value slice pins s σ H x y v u Q I rx ry q hs
 ·exact h' value slice pins s σ H x y v u Q I rx ry q hs
theorem Yx.or {id:String} {r r':V→List V→Hp→VK→Prop} (h:Yx X id r) (h':Yx X id r'):Yx X id (fun x xs H Q=>r x xs H Q∨r' x xs H Q):=by
 intro pins s σ H x xs v us Q I rx rs q;rcases q with q | q
 ·exact h pins s σ H x xs v us Q I rx rs q
 ·exact h' pins s σ H x xs v us Q I rx rs q
theorem O4 {r:R2} (hr:N8 X r) (ha:PE X a ta) (hb:PE X b tb) (hs:vP b):PE X (.Subscript a b pos) (Y8 r ta tb):=by
 intro pins s σ H Q I h;exact Subscript_ (WL ha hb I h fun v u s2 x y H2 I2 rx ry q=>hr a b pins s2 σ H2 x y v u Q I2 rx ry q (hs _ _))
def Zn (K:PySem.W.Frag):R2:=fun x y H Q=>∃p xs i v,x=.ref p∧y=.int i∧di K H p xs∧n6 xs i=some v∧Q v H
def Zo (K:PySem.W.Frag):R2:=fun x y H Q=>∃p xs i v,x=.ref p∧y=.int i∧jD K H p xs∧n6 xs i=some v∧Q v H
def Zq:R2:=fun x y H Q=>∃z i c,x=.str z∧y=.int i∧z.length≤sizeLine∧n6 z.cps.toList i=some c∧Q (.str ⟨#[c]⟩) H
theorem Bc:N8 X (Zn X.K):=by
 intro value slice pins s σ H x y v u Q I rx ry h hs;obtain ⟨p,xs,i,z,rfl,rfl,hq,he,q⟩:=h;cases rx;obtain ⟨t,rfl⟩:=ry;obtain ⟨its,r,pl,hz⟩:=I.list hq;obtain ⟨j,h1,h2,h3,h4,h5⟩:=Bb he;obtain ⟨w,ew,rw'⟩:=r.get h2;have hl:=r.length;have hn:=q9;have fin:EP X pins σ Q w s:=⟨z,H,I,rw',q⟩
 by_cases h0:0≤i
 ·have hj:i.toNat=j:=by
   rw [seqIndex_of h0 h5] at h1;exact Option.some.inj h1
  exact item_listR pl.isList h0 (by omega) (by rw [hj];simpa using ew) fin hs
 ·have hj:(i + (its.toArray.size:Int)).toNat=j:=by
   rw [seqIndex_neg (by omega) h4] at h1;rw [List.size_toArray,←hl];exact Option.some.inj h1
  exact subscriptTail_builtinR (x:=w) pl.isList.typeIs slot_list_getitem.lookup
   (wpAny_getItem_list_neg (Q:=fun r s'=>r=w∧EP X pins σ Q r s') pl.isList (by omega) (by rw [List.size_toArray] <;> omega) (by omega) (by rw [hj];simpa using ew) ⟨rfl,fin⟩) hs
theorem W6:N8 X (Zo X.K):=by
 intro value slice pins s σ H x y v u Q I rx ry h hs;obtain ⟨p,xs,i,z,rfl,rfl,hq,he,q⟩:=h;cases rx;obtain ⟨t,rfl⟩:=ry;obtain ⟨its,r,pl,hz⟩:=I.tuple hq;obtain ⟨j,h1,h2,h3,h4,h5⟩:=Bb he;obtain ⟨w,ew,rw'⟩:=r.get h2;have hl:=r.length;have hn:=q9;have fin:EP X pins σ Q w s:=⟨z,H,I,rw',q⟩
 exact subscriptTail_builtinR (x:=w) pl.typeIs slot_tuple_getitem.lookup
  (getItem_tuple (j:=j) (Q:=fun r s'=>r=w∧EP X pins σ Q r s') pl (by omega) (by omega) (by rw [List.size_toArray,←hl];exact h1) (by simpa using ew) ⟨rfl,fin⟩) hs
theorem W7:N8 X Zq:=by
 intro value slice pins s σ H x y v u Q I rx ry h hs;obtain ⟨z,i,c,rfl,rfl,hz,he,q⟩:=h;obtain ⟨t,rfl⟩:=rx;obtain ⟨t',rfl⟩:=ry;obtain ⟨j,h1,h2,h3,h4,h5⟩:=Bb he;have hl:z.cps.toList.length=z.length:=by simp [Str.length]
 rw [hl] at h1 h4 h5;have hn:=q9;exact tail_any (typeIs_str s z t) slot_str_getitem.lookup (getItem_str (c:=c) (by
  have e1:decide (i < -(2 ^ 63:Int))=false:=decide_eq_false (by omega);have e2:decide (i ≥ 2 ^ 63)=false:=decide_eq_false (by omega);rw [e1,e2,Bool.or_false]) (by rw [h1];simpa using h2) ⟨.str ⟨#[c]⟩,H,I.tok _,⟨_,rfl⟩,q⟩) hs
def rIx (K:PySem.W.Frag):R2:=fun x y H Q=>Zn K x y H Q∨Zo K x y H Q∨Zq x y H Q
theorem W8:N8 X (rIx X.K):=Bc.or (W6.or W7)
theorem HQ (its:List Value) (n j:Nat) (u:Value):Obj.mapSeq (·.setIfInBounds j u) { cls:=.type "list",data:=.seq its.toArray n }={ cls:=.type "list",data:=.seq (its.set j u).toArray n }:=by
 simp [Obj.mapSeq]
theorem Inv.lst {pins:List (Addr×Obj)} {σ:St} {H:Hp} {s:Shared} {p:Addr} {xs:List V} (I:Inv X pins σ H s) (h:H p=some (.lst xs)):
  ∃(its:List Value) (n:Nat),Vals xs its∧s.heap.get? p=some { cls:=.type "list",data:=.seq its.toArray n }∧xs.length≤sizeLine:=by
 obtain ⟨z,its,n,r,e⟩:=I.hok p _ h;exact ⟨its,n,r,e,z⟩
theorem Inv.W9 {pins:List (Addr×Obj)} {σ:St} {H:Hp} {s:Shared} {p:Addr} {xs ys:List V} {its its':List Value} {n n':Nat} {f:Obj→Obj} (I:Inv X pins σ H s) (h:H p=some (.lst xs))
  (ho:s.heap.get? p=some { cls:=.type "list",data:=.seq its.toArray n }) (hf:f { cls:=.type "list",data:=.seq its.toArray n }={ cls:=.type "list",data:=.seq its'.toArray n' }) (r:Vals ys its') (hz:ys.length≤sizeLine) (t:Nat):
  Inv X pins σ (upd H p (.lst ys)) { s with heap:=s.heap.update p f,toks:=t }:=by
 have e:(s.heap.update p f).get? p=some { cls:=.type "list",data:=.seq its'.toArray n' }:=by
  rw [Heap.get?_update_self f ho (by rw [hf] <;> rfl),hf]
 refine I.write (x:=p) (e:=p) (by rw [h];trivial) (.inl rfl) (fun b u hb q=>(Heap.get?_update_other _ _ (Ne.symm hb)).trans q) ⟨_,e⟩ ?_;exact ⟨hz,its',n',r,e⟩
def O5:V→V→V→Hp→(Hp→Prop)→Prop:=fun o i v H Q=>∃p xs k j,o=.ref p∧i=.int k∧H p=some (.lst xs)∧HN xs.length k=some j∧Q (upd H p (.lst (xs.set j v)))
theorem set_list:Ar X O5:=by
 intro pins s σ H o i v ov iv u Q I ro ri rv h;obtain ⟨p,xs,k,j,rfl,rfl,hp,hj,q⟩:=h;cases ro;obtain ⟨t,rfl⟩:=ri;obtain ⟨its,n,r,ho,hz⟩:=I.lst hp;obtain ⟨h1,h2,h3,h4⟩:=JZ hj;have hl:=r.length;have hn:=q9;have I':Inv X pins σ (upd H p (.lst (xs.set j v))) { s with heap:=s.heap.update p (Obj.mapSeq (·.setIfInBounds j u)) }:=
  I.W9 hp ho (HQ its n j u) (r.set rv j) (by rw [List.length_set];exact hz) s.toks
 by_cases h0:0≤k
 ·have hk:k.toNat=j:=by
   rw [seqIndex_of h0 h4] at h1;exact Option.some.inj h1
  exact PySem.W.ki_setAt ho h0 (by omega) (by rw [List.size_toArray,←hl];exact h4) (by rw [hk];exact ⟨_,I',q⟩)
 ·have hk:(k + (its.toArray.size:Int)).toNat=j:=by
   rw [seqIndex_neg (by omega) h3] at h1;rw [List.size_toArray,←hl];exact Option.some.inj h1
  exact PySem.W.ki_setBack ho (by omega) (by rw [List.size_toArray,←hl];exact h3) (by omega) (by rw [hk];exact ⟨_,I',q⟩)
theorem Bd (lo hi:Option Int) (n:Nat):(sliceBounds lo hi none n).1=((HT.fJ n 0 lo:Nat):Int)∧(sliceBounds lo hi none n).2.1=((HT.fJ n n hi:Nat):Int)∧(sliceBounds lo hi none n).2.2=1:=by
 refine ⟨?_,?_,rfl⟩
 ·cases lo with
  | none=>simp [sliceBounds,HT.fJ]
  | some i=>
   simp only [sliceBounds,HT.fJ,Option.getD_none,show (1:Int) > 0 by decide,if_true];by_cases h:i < 0
   ·simp only [h,if_true] <;> omega
   ·simp only [h,if_false] <;> omega
 ·cases hi with
  | none=>simp [sliceBounds,HT.fJ]
  | some i=>
   simp only [sliceBounds,HT.fJ,Option.getD_none,show (1:Int) > 0 by decide,if_true];by_cases h:i < 0
   ·simp only [h,if_true] <;> omega
   ·simp only [h,if_false] <;> omega
theorem zp (its:List Value) (lo hi:Option Int):slicePick its.toArray lo hi none=((its.drop (HT.fJ its.length 0 lo)).take (HT.fJ its.length its.length hi - HT.fJ its.length 0 lo)).toArray:=by
 obtain ⟨h1,h2,h3⟩:=Bd lo hi its.toArray.size;unfold slicePick;rw [h1,h2,h3];simp only [sliceRange_one,pick_run,List.size_toArray] <;> rfl
def abj (K:PySem.W.Frag):V→Option Int→Option Int→Hp→VK→Prop:=fun x lo hi H Q=>∃a xs,x=.ref a∧di K H a xs∧∀p,H p=none→Q (.ref p) (upd H p (.lst (wL xs lo hi)))
theorem Tt:Tq X (abj X.K):=by
 intro pins s σ H x v vl vu lo hi sl Q I rx hs pl pu h;obtain ⟨a,xs,rfl,hx,q⟩:=h;cases rx;obtain ⟨its,r,ht,hz⟩:=I.list hx;have hlen:=r.length;refine ⟨"list",_,slot_list_getitem.lookup,ht.isList.typeIs,?_⟩;refine wpAny_getItem_list_slice ht.isList hs pl pu .none (by simp) ?_ (by rw [List.size_toArray] <;> omega);rw [zp,←hlen];refine ⟨.ref s.heap.objs.size,_,I.laid (t':=s.toks) (o:=.lst (wL xs lo hi)) (fun b ob q=>Heap.get?_push_of_some _ q) (Nat.le_refl _) ?_,rfl,q _ (I.hok.fresh (Nat.le_refl _))⟩;exact ⟨Nat.le_trans (vd xs lo hi) hz,_,0,(r.drop (HT.fJ xs.length 0 lo)).take (HT.fJ xs.length xs.length hi - HT.fJ xs.length 0 lo),Heap.get?_push_size _ rfl⟩
def lX:V→Bool
 | .non=>true
 | .bl _=>true
 | .int _=>true
 | .str _=>true
 | _=>false
def O6:V→V→Bool
 | .non,.non=>true
 | .bl a,.bl b=>a==b
 | .bl a,.int b=>(if a then 1 else 0)==b
 | .int a,.bl b=>a==(if b then 1 else 0)
 | .int a,.int b=>a==b
 | .str a,.str b=>a==b
 | _,_=>false
theorem HR {A:Around} {s:Shared} {y x:V} {u v:Value} (ry:RelV y u) (rx:RelV x v) (fy:lX y=true) (fx:lX x=true):SeqAt.EqAt A s u v (O6 y x):=by
 cases y with
 | non=>
  cases ry;cases x with
  | non=>cases rx;exact SeqAt.EqAt.same _
  | bl b=>cases rx;exact SeqAt.EqAt.none_bool b
  | int b=>obtain ⟨t,rfl⟩:=rx;exact SeqAt.EqAt.none_int b t
  | str b=>obtain ⟨t,rfl⟩:=rx;exact SeqAt.EqAt.none_str b t
  | _=>exact absurd (show false=true from fx) Bool.false_ne_true
 | bl a=>
  cases ry;cases x with
  | non=>cases rx;exact SeqAt.EqAt.bool_none a
  | bl b=>cases rx;exact SeqAt.EqAt.bool_bool a b
  | int b=>obtain ⟨t,rfl⟩:=rx;exact SeqAt.EqAt.bool_int a b t
  | str b=>obtain ⟨t,rfl⟩:=rx;exact SeqAt.EqAt.bool_str a b t
  | _=>exact absurd (show false=true from fx) Bool.false_ne_true
 | int a=>
  obtain ⟨t',rfl⟩:=ry;cases x with
  | non=>cases rx;exact SeqAt.EqAt.int_none a t'
  | bl b=>cases rx;exact SeqAt.EqAt.int_bool a t' b
  | int b=>obtain ⟨t,rfl⟩:=rx;exact SeqAt.EqAt.int_int a t' b t
  | str b=>obtain ⟨t,rfl⟩:=rx;exact SeqAt.EqAt.int_str a t' b t
  | _=>exact absurd (show false=true from fx) Bool.false_ne_true
 | str a=>
  obtain ⟨t',rfl⟩:=ry;cases x with
  | non=>cases rx;exact SeqAt.EqAt.str_none a t'
  | bl b=>cases rx;exact SeqAt.EqAt.str_bool a t' b
  | int b=>obtain ⟨t,rfl⟩:=rx;exact SeqAt.EqAt.str_int a t' b t
  | str b=>obtain ⟨t,rfl⟩:=rx;exact SeqAt.EqAt.str_str a t' b t
  | _=>exact absurd (show false=true from fx) Bool.false_ne_true
 | _=>exact absurd (show false=true from fy) Bool.false_ne_true
def HS (x:V) (u:Value):Bool:=match u with
 | .none=>O6 .non x
 | .bool b=>O6 (.bl b) x
 | .int i _=>O6 (.int i) x
 | .str z _=>O6 (.str z) x
 | _=>false
theorem O7 {x y:V} {u:Value} (r:RelV y u) (f:lX y=true):HS x u=O6 y x:=by
 cases y with
 | non=>cases r;rfl
 | bl b=>cases r;rfl
 | int i=>obtain ⟨t,rfl⟩:=r;rfl
 | str z=>obtain ⟨t,rfl⟩:=r;rfl
 | _=>exact absurd (show false=true from f) Bool.false_ne_true
theorem rZ {x:V}:∀{xs:List V} {us:List Value},Vals xs us→xs.all lX=true→us.any (HS x)=xs.any fun y=>O6 y x
 | _,_,.nil,_=>rfl
 | y::xs,u::us,.cons r t,f=>by
  rw [List.all_cons,Bool.and_eq_true] at f;rw [List.any_cons,List.any_cons,O7 r f.1,rZ t f.2]
theorem oH {A:Around} {s:Shared} {x:V} {v:Value} (rx:RelV x v) (fx:lX x=true):∀{xs:List V} {us:List Value},Vals xs us→xs.all lX=true→∀u∈us,SeqAt.EqAt A s u v (HS x u)
 | _,_,.nil,_=>fun u hu=>by cases hu
 | y::xs,u::us,.cons r t,f=>fun u' hu=>by
  rw [List.all_cons,Bool.and_eq_true] at f;rcases List.mem_cons.mp hu with rfl | hu
  ·rw [O7 r f.1];exact HR r rx f.1 fx
  ·exact oH rx fx t f.2 u' hu
def inV (x:V) (xs:List V):Bool:=xs.any fun y=>O6 y x
def rIn (K:PySem.W.Frag) (neg:Bool):R2:=fun x y H Q=>∃p xs,y=.ref p∧(di K H p xs∨jD K H p xs)∧lX x=true∧xs.all lX=true∧Q (.bl (if neg then !inV x xs else inV x xs)) H
theorem Mp:g8 X (compareOp .In) (rIn X.K false):=by
 intro pins s σ H x y v u Q I rx ry h;obtain ⟨p,xs,rfl,hq,fx,fs,q⟩:=h;cases ry;rcases hq with hq | hq
 ·obtain ⟨its,r,pl,hz⟩:=I.list hq;refine SeqAt.in_listAt (HS x) pl.isList (fun w hw=>oH rx fx r fs w (by simpa using hw)) ⟨.bl _,H,I,rfl,?_⟩;rw [show its.toArray.any (HS x)=its.any (HS x) by simp,rZ r fs];exact q
 ·obtain ⟨its,r,pl,hz⟩:=I.tuple hq;refine SeqAt.in_tupleAt (HS x) pl (fun w hw=>oH rx fx r fs w (by simpa using hw)) ⟨.bl _,H,I,rfl,?_⟩;rw [show its.toArray.any (HS x)=its.any (HS x) by simp,rZ r fs];exact q
theorem Be:g8 X (compareOp .NotIn) (rIn X.K true):=by
 intro pins s σ H x y v u Q I rx ry h;obtain ⟨p,xs,rfl,hq,fx,fs,q⟩:=h;cases ry;rcases hq with hq | hq
 ·obtain ⟨its,r,pl,hz⟩:=I.list hq;refine SeqAt.notIn_listAt (HS x) pl.isList (fun w hw=>oH rx fx r fs w (by simpa using hw)) ⟨.bl _,H,I,rfl,?_⟩;rw [show its.toArray.any (HS x)=its.any (HS x) by simp,rZ r fs];exact q
 ·obtain ⟨its,r,pl,hz⟩:=I.tuple hq;refine SeqAt.notIn_tupleAt (HS x) pl (fun w hw=>oH rx fx r fs w (by simpa using hw)) ⟨.bl _,H,I,rfl,?_⟩;rw [show its.toArray.any (HS x)=its.any (HS x) by simp,rZ r fs];exact q
theorem sr:cY X (.builtin "len") (fun xs H Q=>∃p ys,xs=[.ref p]∧(di X.K H p ys∨jD X.K H p ys)∧Q (.int ys.length) H):=by
 intro pins s σ H xs us Q I r h;obtain ⟨p,ys,rfl,hq,q⟩:=h;obtain ⟨u,rfl,rx⟩:=vals1 r;cases rx;have hn:=q9;rcases hq with hq | hq
 ·obtain ⟨its,r',pl,hz⟩:=I.list hq;have hlen:=r'.length;exact Calls.call_len_list pl.isList (by simp only [List.size_toArray] <;> omega) ⟨.int ys.length,H,I.tok _,⟨s.toks + 1,by rw [List.size_toArray,hlen]⟩,q⟩
 ·obtain ⟨its,r',pl,hz⟩:=I.tuple hq;have hlen:=r'.length;exact len_tuple pl (by simp only [List.size_toArray] <;> omega) ⟨.int ys.length,H,I.tok _,⟨s.toks + 1,by rw [List.size_toArray,hlen]⟩,q⟩
theorem Bg:cY X (.builtin "len") (fun xs H Q=>∃z,xs=[.str z]∧z.length≤sizeLine∧Q (.int z.length) H):=by
 intro pins s σ H xs us Q I r h;obtain ⟨z,rfl,hz,q⟩:=h;obtain ⟨u,rfl,t,rfl⟩:=vals1 r;have hn:=q9;exact len_str (by omega) ⟨.int z.length,H,I.tok _,⟨_,rfl⟩,q⟩
theorem cY.or {f:Value} {r r':List V→Hp→VK→Prop} (h:cY X f r) (h':cY X f r'):cY X f (fun xs H Q=>r xs H Q∨r' xs H Q):=by
 intro pins s σ H xs us Q I rs q;rcases q with q | q
 ·exact h pins s σ H xs us Q I rs q
 ·exact h' pins s σ H xs us Q I rs q
theorem qC:cY X (.type "tuple") (fun xs H Q=>∃p ys,xs=[.ref p]∧((di X.K H p ys∧∀l,H l=none→Q (.ref l) (upd H l (.tup ys)))∨(jD X.K H p ys∧Q (.ref p) H))):=by
 intro pins s σ H xs us Q I r h;obtain ⟨p,ys,rfl,h⟩:=h;obtain ⟨u,rfl,rx⟩:=vals1 r;cases rx;rcases h with ⟨hq,q⟩ | ⟨hq,q⟩
 ·obtain ⟨its,r',pl,hz⟩:=I.list hq;have hlen:=r'.length;refine call_tuple_list pl.isList (fun h' kp=>?_) (by simp only [List.size_toArray] <;> omega);have I1:Inv X pins σ H { s with heap:=h' }:=I.kept (t':=s.toks) kp;have I2:Inv X pins σ (upd H h'.objs.size (.tup ys)) { s with heap:=h'.push { cls:=.type "tuple",data:=.seq its.toArray } }:=
   I1.laid (t':=s.toks) (fun b o e=>Heap.get?_push_of_some _ e) (Nat.le_refl _) (show cB X.prog X.w _ _ _ (.tup ys) from ⟨hz,its,r',IsTup.new _ _⟩)
  exact ⟨.ref h'.objs.size,_,I2,rfl,q _ (I1.hok.fresh (Nat.le_refl _))⟩
 ·obtain ⟨its,r',pl,hz⟩:=I.tuple hq;exact call_tuple_same pl ⟨.ref p,H,I,rfl,q⟩
def tyV (K:PySem.W.Frag) (T:String) (x:V) (H:Hp):Prop:=match x with
 | .str _=>T="str"
 | .int _=>T="int"
 | .ref p=>(T="list"∧∃xs,di K H p xs)∨(T="tuple"∧∃o,K.lookup p=some o∧o.cls=.type "tuple"∧o.dict=none)∨
   (T="dict"∧((∃kvs,H p=some (.dK kvs))∨∃kvs,H p=some (.dT kvs)))∨(T="set"∧∃S n,H p=some (.set S n))
 | _=>False
theorem Xa {pins:List (Addr×Obj)} {σ:St} {H:Hp} {s:Shared} {T:String} {x:V} {v:Value} (I:Inv X pins σ H s) (r:RelV x v) (ty:tyV X.K T x H):
  s.TypeIs v T∧∀a,v=.ref a→∃ob,s.heap.get? a=some ob∧ob.dict=none:=by
 cases x with
 | str z=>
  obtain ⟨t,rfl⟩:=r;cases (show T="str" from ty);exact ⟨typeIs_str s z t,fun _ e=>nomatch e⟩
 | int i=>
  obtain ⟨t,rfl⟩:=r;cases (show T="int" from ty);exact ⟨typeIs_int s i t,fun _ e=>nomatch e⟩
 | ref p=>
  cases r;rcases ty with ⟨rfl,xs,hq⟩ | ⟨rfl,o,hk,hc,hd⟩ | ⟨rfl,hk⟩ | ⟨rfl,S,n,hk⟩
  ·obtain ⟨its,_,pl,_⟩:=I.list hq;refine ⟨pl.isList.typeIs,fun a e=>?_⟩;cases e;obtain ⟨o,n,e,c,hd,_⟩:=pl;exact ⟨o,e,hd⟩
  ·refine ⟨⟨o,I.uh p o hk,hc⟩,fun a e=>?_⟩;cases e;exact ⟨o,I.uh _ o hk,hd⟩
  ·have z:∃o,s.heap.get? p=some o∧o.ExactDict:=by
    rcases hk with ⟨kvs,hk⟩ | ⟨kvs,hk⟩
    ·obtain ⟨_,_,_,_,o,_,_,e,ex,_⟩:=I.hok p _ hk;exact ⟨o,e,ex⟩
    ·obtain ⟨_,_,_,_,o,_,_,e,ex,_⟩:=I.hok p _ hk;exact ⟨o,e,ex⟩
   obtain ⟨o,e,ex⟩:=z;refine ⟨⟨o,e,ex.1⟩,fun a e2=>?_⟩;cases e2;exact ⟨o,e,ex.2.1⟩
  ·obtain ⟨o,_,_,_,e,ex,_⟩:=I.hok p _ hk;refine ⟨⟨o,e,ex.1⟩,fun a e2=>?_⟩;cases e2;exact ⟨o,e,ex.2.1⟩
 | _=>exact False.elim ty
def tBM (K:PySem.W.Frag) (T:String) (r:V→List V→Hp→VK→Prop) (to:TE) (t:TA):TE:=fun σ H Q=>to σ H fun x H1=>tyV K T x H1∧t σ H1 fun xs H2=>r x xs H2 Q
variable {o e:Expr} {es:List Expr} {to:TE} {t:TA} {name:Str} {apos cpos:Pos} {T id:String} {r:V→List V→Hp→VK→Prop}
theorem O8 (pa:PlainAttrs T) (slot:Slot T name id) (hty:typeOf (.builtin id)=pure (.type "method_descriptor")) (hm:Yx X id r) (ho:PE X o to) (ha:PA X (e::es) t)
  (hbase:attributeBase o name X.env (eval o X.env)=eval o X.env:=by rfl)
  (hfew:((backTo cpos (starEach (e::es) X.env)).all (fun x=>!x.1)&&(backToKw cpos (keywordEach [] X.env)).all (fun x=>x.1.isSome)
   &&decide ((e::es).length + ([]:List Keyword).length + (if ([]:List Keyword).isEmpty then 0 else 1) < 30))=true:=by rfl)
  (hline:(apos.endLine==cpos.line)=true:=by rfl) (hs:starEach (e::es) X.env=(false,eval e X.env)::starEach es X.env:=by rfl) (hplain:(backTo cpos (starEach es X.env)).any (·.1)=false:=by rfl):
  PE X (.Call (.Attribute o name apos) (e::es) [] cpos) (tBM X.K T r to t):=by
 intro pins s σ H Q I h;refine wpAny_Call_method_late hbase hfew hline rfl (cX (ho pins s σ H _ I h) fun v s1 aZ=>?_);obtain ⟨x,H1,I1,r1,ty,q1⟩:=aZ;obtain ⟨h1,h2⟩:=Xa I1 r1 ty;refine ⟨T,id,pa,slot,hty,h1,h2,?_⟩;have hA:=ha cpos pins s1 σ H1 _ I1 q1;rw [hs] at hA ⊢;refine Calls.callWith_builtin (by show (false || (backTo cpos (starEach es X.env)).any (·.1))=false;rw [hplain] <;> rfl) (Calls.evalArgs_plain ?_);exact cX hA fun us s2 ⟨vs,H2,I2,r2,q2⟩=>hm pins s2 σ H2 x vs v us Q I2 r1 r2 q2
end
def VB (X:Cx) (id:String) (r:V→List V→Hp→VK→Prop):Prop:=
 ∀(pins:List (Addr×Obj)) (s:Shared) (σ:St) (H:Hp) (x:V) (xs:List V) (v:Value) (us:List Value) (Q:VK),Inv X pins σ H s→RelV x v→Vals xs us→r x xs H Q→
  wpAny (model X.prog X.w) X.A (call (.builtin id) (v::us)) (EP X pins σ Q) X.xe s
theorem Vals.one:∀{x:V} {us:List Value},Vals [x] us→∃u,us=[u]∧RelV x u
 | _,_,.cons r .nil=>⟨_,rfl,r⟩
theorem Vals.two:∀{x y:V} {us:List Value},Vals [x,y] us→∃u v,us=[u,v]∧RelV x u∧RelV y v
 | _,_,_,.cons r (.cons q .nil)=>⟨_,_,rfl,r,q⟩
theorem Vals.eraseIdx:∀{xs:List V} {us:List Value} (i:Nat),Vals xs us→Vals (xs.eraseIdx i) (us.eraseIdx i)
 | _,_,_,.nil=>.nil
 | _,_,0,.cons _ t=>t
 | _,_,i + 1,.cons r t=>.cons r (Vals.eraseIdx i t)
theorem Vals.reverse {xs:List V} {us:List Value} (h:Vals xs us):Vals xs.reverse us.reverse:=by
 induction h with
 | nil=>exact .nil
 | cons r t ih=>rw [List.reverse_cons,List.reverse_cons];exact Vals.append ih (.cons r .nil)
theorem Vals.rep {xs:List V} {us:List Value} (h:Vals xs us):∀k:Nat,Vals (List.replicate k xs).flatten (List.replicate k us).flatten
 | 0=>.nil
 | k + 1=>by
  rw [List.replicate_succ,List.replicate_succ,List.flatten_cons,List.flatten_cons];exact Vals.append h (Vals.rep h k)
theorem foldl_rep (its:List Value):∀(k:Nat) (acc:List Value),
  List.foldl (fun x1 x2=>x1++x2) acc.toArray (List.replicate k its.toArray)=(acc++(List.replicate k its).flatten).toArray
 | 0,acc=>by simp
 | k + 1,acc=>by
  have e:acc.toArray++its.toArray=(acc++its).toArray:=by simp
  have e2:(acc++its)++(List.replicate k its).flatten=acc++(List.replicate (k + 1) its).flatten:=by
   rw [List.replicate_succ,List.flatten_cons,List.append_assoc]
  rw [←e2,←foldl_rep its k (acc++its),←e,List.replicate_succ,List.foldl_cons]
section
variable {X:Cx} {pins:List (Addr×Obj)} {σ:St} {H:Hp} {s:Shared} {l b:Addr} {xs ys zs:List V}
theorem Inv.Zr {its its':List Value} {n:Nat} {f:Array Value→Array Value} {t':Nat} (I:Inv X pins σ H s) (hH:H l=some (.lst xs))
  (e:s.heap.get? l=some { cls:=.type "list",data:=.seq its.toArray n }) (hf:f its.toArray=its'.toArray) (hv:Vals ys its') (hz:ys.length≤sizeLine):
  Inv X pins σ (upd H l (.lst ys)) { s with heap:=s.heap.update l (Obj.mapSeq f),toks:=t' }:=by
 have q:=PySem.IsL.update e f;rw [hf] at q;refine I.write (x:=l) (e:=l) (by rw [hH];exact trivial) (.inl rfl) (fun b' u hb hu=>(Heap.get?_update_other s.heap (Obj.mapSeq f) (Ne.symm hb)).trans hu) ⟨_,q⟩ ?_;exact ⟨hz,its',_,hv,q⟩
theorem Inv.Zt {its:List Value} {t':Nat} (I:Inv X pins σ H s) (hv:Vals ys its) (hz:ys.length≤sizeLine):
  Inv X pins σ (upd H s.heap.objs.size (.lst ys)) { s with heap:=s.heap.push { cls:=.type "list",data:=.seq its.toArray },toks:=t' }:=
 I.laid (fun _ _ q=>Heap.get?_push_of_some _ q) (Nat.le_refl _) ⟨hz,its,0,hv,Heap.get?_push_size _ rfl⟩
theorem Inv.fresh (I:Inv X pins σ H s):H s.heap.objs.size=none:=I.hok.fresh (Nat.le_refl _)
theorem Inv.Mq (I:Inv X pins σ H s) (hH:H l=some (.lst xs)):xs.length≤sizeLine∧∃(its:List Value) (n:Nat),Vals xs its∧xs.length=its.length∧s.heap.get? l=some { cls:=.type "list",data:=.seq its.toArray n }:=by
 obtain ⟨z,its,n,r,e⟩:=I.hok l _ hH;exact ⟨z,its,n,r,r.length,e⟩
theorem DY {n:Nat} (h:n≤sizeLine):Builtin.List.listTooLong n=false:=by
 unfold Builtin.List.listTooLong;exact decide_eq_false (by omega)
end
section
variable {X:Cx}
def Tu:V→List V→Hp→VK→Prop:=fun x vs H Q=>∃l xs y,x=.ref l∧vs=[y]∧H l=some (.lst xs)∧xs.length < sizeLine∧Q .non (upd H l (.lst (xs++[y])))
theorem zR:VB X "list.append" Tu:=by
 intro pins s σ H x vs v us Q I rx rv h;obtain ⟨l,xs,y,rfl,rfl,hH,hz,q⟩:=h;cases rx;obtain ⟨u,rfl,ru⟩:=rv.one;obtain ⟨z,its,n,r,hl,e⟩:=I.Mq hH;refine call_meets F.slot_list_append ⟨_,e,rfl⟩ F.entry_list_append (F.args_list_append_2 _ _) (PySem.list_append l its.toArray n u (by rw [List.size_toArray];omega)) ⟨e,?_⟩;refine ⟨.non,_,I.Zr (its':=its++[u]) hH e (by simp) (r.append (.cons ru .nil)) ?_,rfl,q⟩;rw [List.length_append,List.length_singleton];omega
def Tv:V→List V→Hp→VK→Prop:=fun x vs H Q=>∃l b xs zs,x=.ref l∧vs=[.ref b]∧H l=some (.lst xs)∧H b=some (.lst zs)∧xs.length + zs.length≤sizeLine∧Q .non (upd H l (.lst (xs++zs)))
theorem Mr:VB X "list.extend" Tv:=by
 intro pins s σ H x vs v us Q I rx rv h;obtain ⟨l,b,xs,zs,rfl,rfl,hH,hB,hz,q⟩:=h;cases rx;obtain ⟨u,rfl,ru⟩:=rv.one;cases ru;obtain ⟨z,its,n,r,hl,e⟩:=I.Mq hH;obtain ⟨z2,its2,n2,r2,hl2,e2⟩:=I.Mq hB;have hsz:its.toArray.size + its2.toArray.size≤sizeLine:=by rw [List.size_toArray,List.size_toArray];omega
 have O9:¬(!its.toArray.isEmpty&&Builtin.List.listTooLong (its.toArray.size + its2.toArray.size))=true:=by
  rw [DY hsz,Bool.and_false];exact Bool.false_ne_true
 refine call_meets F.slot_list_extend ⟨_,e,rfl⟩ F.entry_list_extend (F.args_list_extend_2 _ _)
  (AutoSeq1.list_extend_list_list_0 l its.toArray n b its2.toArray n2 O9 (by rw [List.size_toArray];omega) (by omega)) ⟨e,e2,?_⟩
 refine ⟨.non,_,I.Zr (its':=its++its2) hH e (by simp) (r.append r2) ?_,rfl,q⟩;rw [List.length_append];omega
def Zu:R2:=fun x y H Q=>∃l b xs zs,x=.ref l∧y=.ref b∧H l=some (.lst xs)∧H b=some (.lst zs)∧xs.length + zs.length≤sizeLine∧∀p,H p=none→Q (.ref p) (upd H p (.lst (xs++zs)))
theorem Xb:g8 X (binaryOp .Add) Zu:=by
 intro pins s σ H x y v u Q I rx ry h;obtain ⟨l,b,xs,zs,rfl,rfl,hH,hB,hz,q⟩:=h;cases rx;cases ry;obtain ⟨z,its,n,r,hl,e⟩:=I.Mq hH;obtain ⟨z2,its2,n2,r2,hl2,e2⟩:=I.Mq hB;refine PySem.P.add_list e e2 ?_ (by rw [List.size_toArray,List.size_toArray];omega);have ea:its.toArray++its2.toArray=(its++its2).toArray:=by simp
 rw [ea];exact ⟨.ref _,_,I.Zt (t':=s.toks) (r.append r2) (by rw [List.length_append];omega),rfl,q _ I.fresh⟩
def Zv:R2:=fun x y H Q=>∃l k xs,x=.ref l∧y=.int k∧H l=some (.lst xs)∧-(2 ^ 63)≤k∧k < 2 ^ 63∧xs.length * k.toNat≤sizeLine∧
 ∀p,H p=none→Q (.ref p) (upd H p (.lst (List.replicate k.toNat xs).flatten))
theorem len_rep {α:Type} (xs:List α) (k:Nat):(List.replicate k xs).flatten.length=k * xs.length:=by
 induction k with
 | zero=>simp
 | succ k ih=>rw [List.replicate_succ,List.flatten_cons,List.length_append,ih,Nat.succ_mul,Nat.add_comm]
theorem Xc:g8 X (binaryOp .Mult) Zv:=by
 intro pins s σ H x y v u Q I rx ry h;obtain ⟨l,k,xs,rfl,rfl,hH,h1,h2,hz,q⟩:=h;cases rx;obtain ⟨t,rfl⟩:=ry;obtain ⟨z,its,n,r,hl,e⟩:=I.Mq hH;have hlen:its.toArray.size * k.toNat≤sizeLine:=by rw [List.size_toArray,←hl];exact hz
 have hcap:¬its.toArray.size * k.toNat > (2 ^ 63 - 1) / 8:=by
  have:(sizeLine:Nat)≤(2 ^ 63 - 1) / 8:=by decide
  omega
 have hfit:¬(!Builtin.List.listFitsIndex k)=true:=by
  rw [fitsIndex_both h1 h2];exact Bool.false_ne_true
 have O9:¬Builtin.List.listTooLong (its.toArray.size * k.toNat)=true:=by
  rw [DY hlen];exact Bool.false_ne_true
 have hnew:List.foldl (fun x1 x2=>x1++x2) #[] (List.replicate (if its.toArray.isEmpty=true then 0 else k.toNat) its.toArray)=(List.replicate k.toNat its).flatten.toArray:=by
  have f0:∀m:Nat,List.foldl (fun x1 x2=>x1++x2) #[] (List.replicate m its.toArray)=(List.replicate m its).flatten.toArray:=fun m=>by
   have:=foldl_rep its m [];rw [List.nil_append] at this;exact this
  rw [f0];cases its with
  | nil=>simp
  | cons a r'=>rw [if_neg (by simp)]
 refine wpAny_binaryOp_repeat_ref (T:="list") (U:="int") (by decide) ⟨_,e,rfl⟩ (fun s'=>typeIs_int s' k t) noFill_list_mul F.fills_int_mul F.slot_int_rmul repeat_list F.slot_int_index.lookup
  (call_meets F.slot_int_rmul (typeIs_int s k t) F.entry_int_rmul (F.args_int_rmul_2 _ _) (int___rmul___int_list k t l its.toArray n)
   ⟨e,rfl,⟨_,e,rfl⟩,call_meets F.slot_list_mul ⟨_,e,rfl⟩ F.entry_list_mul (F.args_list_mul_2 _ _) (AutoListH.list___mul___list_int_3 l its.toArray n k t hfit hcap O9) ⟨e,?_⟩⟩)
 rw [hnew];exact ⟨.ref _,_,I.Zt (t':=s.toks) (r.rep k.toNat) (by rw [len_rep,Nat.mul_comm];exact hz),rfl,q _ I.fresh⟩
end
section
variable {prog:Program} {w:World} {A:Around} {E:Value→Shared→Prop} {s:Shared}
set_option maxRecDepth 100000 in
end
section
variable {X:Cx}
end
section
variable {κ:Type} [DecidableEq κ]
def qw (kvs:List (κ×V)) (k:κ):Option V:=(kvs.find? fun kv=>decide (kv.1=k)).map (·.2)
def putK (kvs:List (κ×V)) (k:κ) (v:V):List (κ×V):=
 if (kvs.any fun kv=>decide (kv.1=k))=true then kvs.map (fun kv=>if kv.1=k then (kv.1,v) else kv) else kvs++[(k,v)]
def VD (kvs:List (κ×V)) (k:κ):List (κ×V):=kvs.filter fun kv=>decide (kv.1≠k)
theorem su {p:κ×V} {r:List (κ×V)} {k:κ} (e:p.1=k):qw (p::r) k=some p.2:=by simp [qw,List.find?_cons,e]
theorem sy {p:κ×V} {r:List (κ×V)} {k:κ} (e:¬p.1=k):qw (p::r) k=qw r k:=by simp [qw,List.find?_cons,e]
theorem Ea (k:κ):∀kvs:List (κ×V),(kvs.any fun kv=>decide (kv.1=k))=(qw kvs k).isSome
 | []=>rfl
 | p::r=>by
  rw [List.any_cons];by_cases e:p.1=k
  ·simp only [su e,decide_eq_true e,Bool.true_or,Option.isSome_some]
  ·rw [sy e,decide_eq_false e,Bool.false_or];exact Ea k r
theorem kj (kvs:List (κ×V)) (k:κ) (v:V):(putK kvs k v).length≤kvs.length + 1:=by
 unfold putK;split
 ·rw [List.length_map];omega
 ·rw [List.length_append,List.length_cons,List.length_nil];omega
theorem uo.lY {o:Option V} {u:Option Value} (r:uo o u):o.isSome=u.isSome:=by
 cases o with
 | none=>cases u with
  | none=>rfl
  | some _=>exact (show False from r).elim
 | some _=>cases u with
  | none=>exact (show False from r).elim
  | some _=>rfl
theorem uo.getD {o:Option V} {u:Option Value} {d:V} {d':Value} (r:uo o u) (rd:RelV d d'):RelV (o.getD d) (u.getD d'):=by
 cases o with
 | none=>cases u with
  | none=>exact rd
  | some _=>exact (show False from r).elim
 | some _=>cases u with
  | none=>exact (show False from r).elim
  | some _=>exact r
theorem KV.val {kvs:List (κ×V)} {vs:List (κ×Value)} (r:KV kvs vs) (k:κ):uo (qw kvs k) (valueAt vs k):=by
 unfold KV at r;induction r with
 | nil=>exact True.intro
 | @cons p q ps qs h t ih=>
  obtain ⟨h1,h2⟩:=h;by_cases e:p.1=k
  ·have e':q.1=k:=h1.symm.trans e;have b:valueAt (q::qs) k=some q.2:=by simp [valueAt,List.find?_cons,e']
   rw [su e,b];exact h2
  ·have e':¬q.1=k:=fun z=>e (h1.trans z)
   have b:valueAt (q::qs) k=valueAt qs k:=by simp [valueAt,List.find?_cons,e']
   rw [sy e,b];exact ih
theorem KV.any {kvs:List (κ×V)} {vs:List (κ×Value)} (r:KV kvs vs) (k:κ):(kvs.any fun kv=>decide (kv.1=k))=vs.any fun kv=>decide (kv.1=k):=by
 unfold KV at r;induction r with
 | nil=>rfl
 | cons h t ih=>rw [List.any_cons,List.any_cons,ih,h.1]
theorem KV.repl {kvs:List (κ×V)} {vs:List (κ×Value)} (r:KV kvs vs) (k:κ) {y:V} {u:Value} (ry:RelV y u):
  KV (kvs.map fun kv=>if kv.1=k then (kv.1,y) else kv) (vs.map fun kv=>if kv.1=k then (kv.1,u) else kv):=by
 unfold KV at r ⊢;induction r with
 | nil=>exact .nil
 | @cons p q ps qs h t ih=>
  rw [List.map_cons,List.map_cons];refine .cons ?_ ih;obtain ⟨h1,h2⟩:=h;by_cases e:p.1=k
  ·rw [if_pos e,if_pos (h1.symm.trans e)];exact ⟨h1,ry⟩
  ·rw [if_neg e,if_neg (fun z=>e (h1.trans z))];exact ⟨h1,h2⟩
theorem KV.put {kvs:List (κ×V)} {vs:List (κ×Value)} (r:KV kvs vs) (k:κ) {y:V} {u:Value} (ry:RelV y u):KV (putK kvs k y) (stored vs k u):=by
 unfold putK stored;rw [r.any k];by_cases e:(vs.any fun kv=>decide (kv.1=k))=true
 ·rw [if_pos e,if_pos e];exact r.repl k ry
 ·rw [if_neg e,if_neg e];exact Paired.snoc r ⟨rfl,ry⟩
theorem KV.drop {kvs:List (κ×V)} {vs:List (κ×Value)} (r:KV kvs vs) (k:κ):KV (VD kvs k) (without vs k):=by
 unfold KV at r ⊢;unfold VD without;induction r with
 | nil=>exact .nil
 | @cons p q ps qs h t ih=>
  obtain ⟨h1,h2⟩:=h;rw [List.filter_cons,List.filter_cons];by_cases e:p.1=k
  ·have a:¬decide (p.1≠k)=true:=by simp [e]
   have b:¬decide (q.1≠k)=true:=by simp [h1.symm.trans e]
   rw [if_neg a,if_neg b];exact ih
  ·have e':¬q.1=k:=fun z=>e (h1.trans z)
   have a:decide (p.1≠k)=true:=by simp [e]
   have b:decide (q.1≠k)=true:=by simp [e']
   rw [if_pos a,if_pos b];exact .cons ⟨h1,h2⟩ ih
theorem KV.keys {kvs:List (κ×V)} {vs:List (κ×Value)} (r:KV kvs vs):kvs.map (·.1)=vs.map (·.1):=by
 unfold KV at r;induction r with
 | nil=>rfl
 | cons h t ih=>rw [List.map_cons,List.map_cons,ih,h.1]
theorem KV.length {kvs:List (κ×V)} {vs:List (κ×Value)} (r:KV kvs vs):kvs.length=vs.length:=Paired.length r
end
theorem wM {P:Program} {w:World} {k:Key} {u:Value} (r:RelV (kV k) u):(cL P w).is k u=true:=by
 cases k with
 | inl i=>obtain ⟨t,e⟩:=(show ∃t,u=Value.int i t from r);subst e;exact DK P w i t
 | inr x=>obtain ⟨t,e⟩:=(show ∃t,u=Value.str x t from r);subst e;exact DN P w x t
theorem zT {P:Program} {w:World}:∀{ks:List Key} {us:List Value},Vals (ks.map kV) us→ItemsAre (cL P w) ks us
 | [],_,r=>by rw [List.map_nil] at r;cases r;exact .nil
 | k::ks,_,r=>by
  rw [List.map_cons] at r;cases r with
  | cons h t=>exact .cons (wM h) (zT t)
abbrev KT (H:Hp):List (List Key×V)→List (List Key×Addr×Value)→Prop:=Paired fun p q=>p.1=q.1∧H q.2.1=some (.tup (p.1.map kV))∧RelV p.2 q.2.2
theorem KT.val {H:Hp} {kvs:List (List Key×V)} {xs:List (List Key×Addr×Value)} (r:KT H kvs xs) (k:List Key):uo (qw kvs k) ((atKey xs k).map (·.2)):=by
 induction r with
 | nil=>exact True.intro
 | @cons p q ps qs h t ih=>
  obtain ⟨h1,_,h2⟩:=h;by_cases e:p.1=k
  ·have e':q.1=k:=h1.symm.trans e;have b:atKey (q::qs) k=some q.2:=by simp [atKey,List.find?_cons,e']
   rw [su e,b];exact h2
  ·have e':¬q.1=k:=fun z=>e (h1.trans z)
   have b:atKey (q::qs) k=atKey qs k:=by simp [atKey,List.find?_cons,e']
   rw [sy e,b];exact ih
theorem KT.repl {H:Hp} {kvs:List (List Key×V)} {xs:List (List Key×Addr×Value)} (r:KT H kvs xs) (k:List Key) {y:V} {u:Value} (ry:RelV y u):
  KT H (kvs.map fun kv=>if kv.1=k then (kv.1,y) else kv) (xs.map (putAt k u)):=by
 induction r with
 | nil=>exact .nil
 | @cons p q ps qs h t ih=>
  rw [List.map_cons,List.map_cons];refine .cons ?_ ih;obtain ⟨h1,h2,h3⟩:=h;unfold putAt;by_cases e:p.1=k
  ·rw [if_pos e,if_pos (h1.symm.trans e)];exact ⟨h1,h2,ry⟩
  ·rw [if_neg e,if_neg (fun z=>e (h1.trans z))];exact ⟨h1,h2,h3⟩
theorem KT.put {H:Hp} {kvs:List (List Key×V)} {xs:List (List Key×Addr×Value)} (r:KT H kvs xs) (k:List Key) {b:Addr} {y:V} {u:Value} (hb:H b=some (.tup (k.map kV))) (ry:RelV y u):
  KT H (putK kvs k y) (storedH xs k b u):=by
 have e:(kvs.any fun kv=>decide (kv.1=k))=(atKey xs k).isSome:=by
  rw [Ea,(r.val k).lY,Option.isSome_map]
 unfold putK storedH;rw [e];by_cases q:(atKey xs k).isSome=true
 ·rw [if_pos q,if_pos q];exact r.repl k ry
 ·rw [if_neg q,if_neg q];exact Paired.snoc r ⟨rfl,hb,ry⟩
theorem KT.keeps {H H':Hp} {kvs:List (List Key×V)} {xs:List (List Key×Addr×Value)} (r:KT H kvs xs) (ht:∀b ys,H b=some (.tup ys)→H' b=some (.tup ys)):KT H' kvs xs:=
 Paired.Wl r fun _ _ z=>⟨z.1,ht _ _ z.2.1,z.2.2⟩
section
variable {P:Program} {w:World} {H:Hp} {h:Heap} {a:Addr}
theorem VF {u:HO} (ok:rN P w H h) (e:Rd H a u):cB P w H h a u:=e.ok ok
theorem zU {kvs:List (Key×V)} (ok:rN P w H h) (e:Rd H a (.dK kvs)):kvs.length≤sizeLine∧(a==sysModules)=false∧∃vs,KV kvs vs∧h.DictOf (cL P w) a vs:=
 show cB P w H h a (.dK kvs) from VF ok e
theorem J0 {kvs:List (Key×V)} (ok:rN P w H h) (e:H a=some (.dK kvs)):kvs.length≤sizeLine∧(a==sysModules)=false∧∃vs,KV kvs vs∧h.DictOf (cL P w) a vs:=zU ok (.inl e)
theorem wN {ks:List Key} (ok:rN P w H h) (e:H a=some (.tup (ks.map kV))):(tupleKind (cL P w)).is h ks a:=by
 obtain ⟨_,its,r,o,h1,h2,n,h3⟩:=(show cB P w H h a (.tup (ks.map kV)) from ok a _ e)
 exact ⟨o,its.toArray,n,h1,h2,h3,by simpa using zT r⟩
theorem Eb {kvs:List (List Key×V)} (ok:rN P w H h) (e:Rd H a (.dT kvs)):kvs.length≤sizeLine∧(a==sysModules)=false∧
  ∃xs,KT H kvs xs∧h.DictOfH (tupleKind (cL P w)) a xs:=by
 obtain ⟨z,y,xs,r,o,es,ep,h1,h2,h3,h4,h5⟩:=(show cB P w H h a (.dT kvs) from VF ok e)
 refine ⟨z,y,xs,r,o,es,ep,h1,h2,h3,h4,fun x hx=>?_,h5⟩;have all:∀{l:List (List Key×V)} {m:List (List Key×Addr×Value)},KT H l m→∀x∈m,(tupleKind (cL P w)).is h x.1 x.2.1:=by
  intro l m q;induction q with
  | nil=>intro x hx;exact nomatch hx
  | @cons p q ps qs hq t ih=>
   intro x hx;rcases List.mem_cons.mp hx with e | hx
   ·subst e;exact wN ok (by rw [←hq.1];exact hq.2.1)
   ·exact ih x hx
 exact all r x hx
theorem VG {kvs:List (List Key×V)} (ok:rN P w H h) (e:H a=some (.dT kvs)):kvs.length≤sizeLine∧(a==sysModules)=false∧
  ∃xs,KT H kvs xs∧h.DictOfH (tupleKind (cL P w)) a xs:=Eb ok (.inl e)
end
def qx (H:Hp) (a:Addr) (y:V) (r:Option V):Prop:=
 (∃kvs k,Rd H a (.dK kvs)∧y=kV k∧r=qw kvs k)∨∃kvs k b,Rd H a (.dT kvs)∧y=.ref b∧H b=some (.tup (k.map kV))∧r=qw kvs k
def wO (H:Hp) (a:Addr) (y v:V) (H':Hp):Prop:=
 (∃kvs k,H a=some (.dK kvs)∧y=kV k∧kvs.length < sizeLine∧H'=upd H a (.dK (putK kvs k v)))∨
 ∃kvs k b,H a=some (.dT kvs)∧y=.ref b∧H b=some (.tup (k.map kV))∧kvs.length < sizeLine∧H'=upd H a (.dT (putK kvs k v))
theorem qx.k {H:Hp} {a:Addr} {kvs:List (Key×V)} {k:Key} (e:H a=some (.dK kvs)):qx H a (kV k) (qw kvs k):=.inl ⟨kvs,k,.inl e,rfl,rfl⟩
theorem qx.t {H:Hp} {a b:Addr} {kvs:List (List Key×V)} {k:List Key} (e:H a=some (.dT kvs)) (eb:H b=some (.tup (k.map kV))):qx H a (.ref b) (qw kvs k):=.inr ⟨kvs,k,b,.inl e,rfl,eb,rfl⟩
theorem wO.k {H:Hp} {a:Addr} {kvs:List (Key×V)} {k:Key} {v:V} (e:H a=some (.dK kvs)) (hl:kvs.length < sizeLine):wO H a (kV k) v (upd H a (.dK (putK kvs k v))):=.inl ⟨kvs,k,e,rfl,hl,rfl⟩
theorem wO.t {H:Hp} {a b:Addr} {kvs:List (List Key×V)} {k:List Key} {v:V} (e:H a=some (.dT kvs)) (eb:H b=some (.tup (k.map kV))) (hl:kvs.length < sizeLine):
  wO H a (.ref b) v (upd H a (.dT (putK kvs k v))):=.inr ⟨kvs,k,b,e,rfl,eb,hl,rfl⟩
section
variable {X:Cx} {pins:List (Addr×Obj)} {σ:St} {H:Hp} {s:Shared} {a:Addr} {y v:V} {u r:Value} {o:Option V} {A:Around} {E:Value→Shared→Prop}
theorem Inv.big (I:Inv X pins σ H s):sysModules < s.heap.objs.size:=by
 have h:mainGlobals < s.heap.objs.size:=(I.mod.glob.keeps I.bk).lt;exact Nat.lt_trans (by decide) h
theorem Ms {Q:Value→Shared→Prop} (hu:A.units + 1 < cLine) (I:Inv X pins σ H s) (g:qx H a y (some v)) (ry:RelV y u) (h:∀w' s',Inv X pins σ H s'→RelV v w'→Q w' s'):
  wpAny (model X.prog X.w) A (getItem (.ref a) u) Q E s:=by
 rcases g with ⟨kvs,k,e,ey,l⟩ | ⟨kvs,k,b,e,ey,eb,l⟩
 ·subst ey;obtain ⟨z,hd,vs,rel,dd⟩:=zU I.hok e;obtain ⟨w',hw,rw'⟩:=uo.some_of (v:=v) (o:=valueAt vs k) (by rw [l];exact rel.val k);exact wpAny_getItem_of (wM ry) dd.mapOf hw (h w' _ (I.tok _) rw')
 ·subst ey;cases (show u=Value.ref b from ry);obtain ⟨z,hd,xs,rel,dd⟩:=Eb I.hok e;obtain ⟨w',hw,rw'⟩:=uo.some_of (v:=v) (o:=(atKey xs k).map (·.2)) (by rw [l];exact rel.val k);obtain ⟨p,hp,hp2⟩:=Option.map_eq_some_iff.mp hw;refine wpAny_getItem_heap (tupleKind_room_in1 hu) (wN I.hok eb) dd hp ?_;rw [hp2];exact h w' _ (I.tok _) rw'
theorem Zw {Q:Value→Shared→Prop} (hu:A.units + 1 < cLine) (I:Inv X pins σ H s) (g:qx H a y o) (ry:RelV y u) (h:∀s',Inv X pins σ H s'→Q (.bool o.isSome) s'):
  wpAny (model X.prog X.w) A (compareOp .In u (.ref a)) Q E s:=by
 rcases g with ⟨kvs,k,e,ey,l⟩ | ⟨kvs,k,b,e,ey,eb,l⟩
 ·subst ey;obtain ⟨z,hd,vs,rel,dd⟩:=zU I.hok e;refine wpAny_in_of (wM ry) hd dd.mapOf ?_;rw [←(rel.val k).lY,←l];exact h _ (I.tok _)
 ·subst ey;cases (show u=Value.ref b from ry);obtain ⟨z,hd,xs,rel,dd⟩:=Eb I.hok e;refine wpAny_in_heap (tupleKind_room_in1 hu) (wN I.hok eb) hd dd ?_;have q:=(rel.val k).lY;rw [Option.isSome_map] at q;rw [←q,←l];exact h _ (I.tok _)
theorem J1 {Q:Value→Shared→Prop} (hu:A.units + 1 < cLine) (I:Inv X pins σ H s) (g:qx H a y o) (ry:RelV y u) (h:∀s',Inv X pins σ H s'→Q (.bool (!o.isSome)) s'):
  wpAny (model X.prog X.w) A (compareOp .NotIn u (.ref a)) Q E s:=by
 rcases g with ⟨kvs,k,e,ey,l⟩ | ⟨kvs,k,b,e,ey,eb,l⟩
 ·subst ey;obtain ⟨z,hd,vs,rel,dd⟩:=zU I.hok e;refine wpAny_notIn_of (wM ry) hd dd.mapOf ?_;rw [←(rel.val k).lY,←l];exact h _ (I.tok _)
 ·subst ey;cases (show u=Value.ref b from ry);obtain ⟨z,hd,xs,rel,dd⟩:=Eb I.hok e;refine wpAny_notIn_heap (tupleKind_room_in1 hu) (wN I.hok eb) hd dd ?_;have q:=(rel.val k).lY;rw [Option.isSome_map] at q;rw [←q,←l];exact h _ (I.tok _)
theorem mU {h':Heap} {t':Nat} {ob:HO} (I:Inv X pins σ H s) (mu:YG (H a)) (hs:Heap.SameBut a s.heap h') (he:∃q,h'.get? a=some q) (new:cB X.prog X.w (upd H a ob) h' a ob):
  Inv X pins σ (upd H a ob) { s with heap:=h',toks:=t' }:=
 I.write (x:=a) (e:=a) mu (.inl rfl) (fun b q hb z=>(hs.2 b hb).trans z) he new
theorem Bh {P:Program} {w:World} {H':Hp} {h':Heap} {kvs:List (Key×V)} {vs:List (Key×Value)} (z:kvs.length≤sizeLine) (hd:(a==sysModules)=false) (rel:KV kvs vs) (dd:h'.DictOf (cL P w) a vs):
  cB P w H' h' a (.dK kvs):=⟨z,hd,vs,rel,dd⟩
theorem zV {H':Hp} {Q:Unit→Shared→Prop} (hu:A.units + 1 < cLine) (I:Inv X pins σ H s) (g:wO H a y v H') (ry:RelV y u) (rv:RelV v r) (h:∀s',Inv X pins σ H' s'→Q () s'):
  wpAny (model X.prog X.w) A (setItem (.ref a) u r) Q E s:=by
 rcases g with ⟨kvs,k,e,ey,l,eH⟩ | ⟨kvs,k,b,e,ey,eb,l,eH⟩
 ·subst ey eH;obtain ⟨z,hd,vs,rel,dd⟩:=J0 I.hok e;have hz:vs.length≤sizeLine:=by rw [←rel.length];exact z
  have hl:(putK kvs k v).length≤sizeLine:=by have:=kj kvs k v;omega
  refine wpAny_setItem_pairs (hsz:=hz) (wM ry) dd fun h' Sw hs=>h _ ?_
  have he:∃q,h'.get? a=some q:=let ⟨q,_,_,hq,_⟩:=Sw;⟨q,hq⟩
  exact mU I (by rw [e];exact True.intro) hs he (Bh hl hd (rel.put k rv) Sw)
 ·subst ey eH;cases (show u=Value.ref b from ry);obtain ⟨z,hd,xs,rel,dd⟩:=VG I.hok e;have hz:xs.length≤sizeLine:=by rw [←Paired.length rel];exact z
  have hl:(putK kvs k v).length≤sizeLine:=by have:=kj kvs k v;omega
  refine wpAny_setItem_heap (hsz:=hz) (tupleKind_room_in1 hu) (wN I.hok eb) dd fun h' Sw hs=>h _ ?_
  obtain ⟨q,es,ep,hq,h2,h3,h4,_,h5⟩:=Sw;refine mU I (by rw [e];exact True.intro) hs ⟨q,hq⟩ ⟨hl,hd,_,(rel.put k eb rv).keeps fun c ys ec=>?_,q,es,ep,hq,h2,h3,h4,h5⟩;rw [aV (Oc ec e (fun z=>nomatch z))];exact ec
end
section
variable {X:Cx} {pins:List (Addr×Obj)} {σ:St} {H:Hp} {s:Shared} {a:Addr} {kvs:List (Key×V)} {k:Key} {u:Value} {A:Around} {E:Value→Shared→Prop}
theorem Zx {Q:Value→Shared→Prop} (I:Inv X pins σ H s) (e:Rd H a (.dK kvs)) (h:∀t s',Inv X pins σ H s'→Q (.int kvs.length t) s'):wpAny (model X.prog X.w) A (call (.builtin "len") [.ref a]) Q E s:=by
 obtain ⟨z,hd,vs,rel,dd⟩:=zU I.hok e;refine call_len_dict hd dd (by rw [←rel.length];rw [sizeLine_eq] at z;omega) ?_;rw [←rel.length];exact h _ _ (I.tok _)
end
theorem Ec {X:Cx} {pins:List (Addr×Obj)} {σ:St} {H:Hp} {s:Shared} {a:Addr} {y:V} {o:Option V} (I:Inv X pins σ H s) (g:qx H a y o):s.TypeIs (.ref a) "dict":=by
 rcases g with ⟨kvs,k,e,_,_⟩ | ⟨kvs,k,b,e,_,_,_⟩
 ·obtain ⟨_,_,vs,_,dd⟩:=zU I.hok e;exact dd.typeIs
 ·obtain ⟨_,_,xs,_,dd⟩:=Eb I.hok e;exact dd.typeIs
section
variable {X:Cx} {o i e value:Expr} {pos pos' tpos:Pos} {td ty tv:TE}
end
theorem wQ {P:Program} {w:World} {H:Hp} (h:Heap) (hb:sysModules < h.objs.size):cB P w H (h.push { cls:=.type "dict",data:=.dict #[] }) h.objs.size (.dK []):=
 ⟨Nat.zero_le _,beq_eq_false_iff_ne.mpr (Ne.symm (Nat.ne_of_lt hb)),[],.nil,Heap.DictOf.new h⟩
def Xd:TE:=fun _ H Q=>∀p,H p=none→Q (.ref p) (upd H p (.dK []))
section
variable {X:Cx} {pos:Pos}
theorem Pa:PE X (.Dict [] [] pos) Xd:=fun pins s σ H Q I h=>
 wpAny_Dict_empty ⟨.ref s.heap.objs.size,_,I.laid (a:=s.heap.objs.size) (o:=.dK []) (t':=s.toks) (fun _ _ q=>Heap.get?_push_of_some _ q) (Nat.le_refl _) (wQ s.heap I.big),rfl,h _ (I.hok.fresh (Nat.le_refl _))⟩
end
def HW:List (TE×TE)→St→Hp→(List (V×V)→Hp→Prop)→Prop
 | [],_,H,Q=>Q [] H
 | (tk,tv)::r,σ,H,Q=>tk σ H fun x H1=>tv σ H1 fun y H2=>HW r σ H2 fun ps H3=>Q ((x,y)::ps) H3
abbrev VV:List (V×V)→List (Value×Value)→Prop:=Paired fun p q=>RelV p.1 q.1∧RelV p.2 q.2
def PPs (X:Cx) (pos:Pos) (keys:List (Option Expr)) (values:List Expr) (Tw:List (TE×TE)):Prop:=
 ∀(pins:List (Addr×Obj)) (s:Shared) (σ:St) (H:Hp) (Q:List (V×V)→Hp→Prop),Inv X pins σ H s→HW Tw σ H Q→
  wpAny (model X.prog X.w) X.A (evalPairs (pairTrees keys values X.env pos)) (fun vs s'=>∃ps H',Inv X pins σ H' s'∧VV ps vs∧Q ps H') X.xe s
theorem Tz {X:Cx} {pos:Pos}:PPs X pos [] [] []:=fun pins s σ H Q I h=>pairTrees_nil_walk ⟨[],H,I,.nil,h⟩
theorem Pb {X:Cx} {pos:Pos} {k v:Expr} {ks:List (Option Expr)} {vs:List Expr} {tk tv:TE} {Tw:List (TE×TE)} (hk:PE X k tk) (hv:PE X v tv) (hr:PPs X pos ks vs Tw):
  PPs X pos (some k::ks) (v::vs) ((tk,tv)::Tw):=fun pins s σ H Q I h=>
 pairTrees_cons_walk (cX (hk pins s σ H _ I h) fun u s1 ⟨x,H1,I1,rx,q1⟩=>cX (hv pins s1 σ H1 _ I1 q1) fun w2 s2 ⟨y,H2,I2,ry,q2⟩=>
  cX (hr pins s2 σ H2 _ I2 q2) fun ws s3 ⟨ps,H3,I3,rel,q3⟩=>⟨(x,y)::ps,H3,I3,.cons ⟨rx,ry⟩ rel,q3⟩)
def wR (kvs more:List (Key×V)):List (Key×V):=more.foldl (fun acc kv=>putK acc kv.1 kv.2) kvs
theorem KV.merge:∀{more:List (Key×V)} {rs:List (Key×Value)} {kvs:List (Key×V)} {vs:List (Key×Value)},KV more rs→KV kvs vs→KV (wR kvs more) (merged vs rs):=by
 intro more rs kvs vs r;unfold KV at r;induction r generalizing kvs vs with
 | nil=>intro q;exact q
 | @cons p q ps qs h t ih=>
  intro r0;have e:KV (putK kvs p.1 p.2) (stored vs q.1 q.2):=by
   have:=r0.put p.1 h.2;rw [←h.1];exact this
  exact ih e
theorem qD:∀(more kvs:List (Key×V)),(wR kvs more).length≤kvs.length + more.length
 | [],kvs=>by show kvs.length≤kvs.length + 0;omega
 | p::r,kvs=>by
  have h1:=qD r (putK kvs p.1 p.2);have h2:=kj kvs p.1 p.2;show (wR (putK kvs p.1 p.2) r).length≤_;rw [List.length_cons];omega
theorem wU {P:Program} {w:World}:∀{kvs:List (Key×V)} {ws:List (Value×Value)},VV (kvs.map fun kv=>(kV kv.1,kv.2)) ws→∃rs,Carries (cL P w) ws rs∧KV kvs rs
 | [],_,r=>by rw [List.map_nil] at r;cases r;exact ⟨[],True.intro,.nil⟩
 | p::kvs,_,r=>by
  rw [List.map_cons] at r;cases r with
  | @cons a b as bs h t=>
   obtain ⟨rs,c,q⟩:=wU (P:=P) (w:=w) t;obtain ⟨b1,b2⟩:=b;exact ⟨(p.1,b2)::rs,⟨wM h.1,rfl,c⟩,.cons ⟨rfl,h.2⟩ q⟩
def Zy (Tw:List (TE×TE)):TE:=fun σ H Q=>∀p,H p=none→HW Tw σ (upd H p (.dK [])) fun ps H2=>H2 p=some (.dK [])∧∃kvs:List (Key×V),ps=kvs.map (fun kv=>(kV kv.1,kv.2))∧kvs.length≤15∧Q (.ref p) (upd H2 p (.dK (wR [] kvs)))
theorem TF {X:Cx} {pos:Pos} {keys:List (Option Expr)} {values:List Expr} {Tw:List (TE×TE)} (h:PPs X pos keys values Tw) (hall:keys.all (·.isSome)=true) (hl:keys.length=values.length) (h0:keys≠[])
  (h15:keys.length≤15):PE X (.Dict keys values pos) (Zy Tw):=by
 intro pins s σ H Q I q;have hn:=I.hok.fresh (Nat.le_refl s.heap.objs.size);have I1:=I.laid (a:=s.heap.objs.size) (o:=.dK []) (h':=s.heap.push { cls:=.type "dict",data:=.dict #[] }) (t':=s.toks) (fun _ _ q=>Heap.get?_push_of_some _ q) (Nat.le_refl _) (wQ s.heap I.big);refine wpAny_Dict_walk (knd:=cL X.prog X.w) hall hl h0 h15 (cX (h pins _ σ _ _ I1 (q _ hn)) fun ws s2 aZ=>?_);obtain ⟨ps,H2,I2,rel,e,kvs,ep,lk,q2⟩:=aZ;subst ep;obtain ⟨rs,c,rk⟩:=wU (P:=X.prog) (w:=X.w) rel;obtain ⟨z,hd,vs0,r0,dd⟩:=J0 I2.hok e;cases r0;refine ⟨rs,c,dd,fun h' Sw hs=>⟨.ref s.heap.objs.size,_,?_,rfl,q2⟩⟩;have hz:(wR [] kvs).length≤sizeLine:=by
  have h1:=qD kvs [];rw [List.length_nil] at h1;rw [sizeLine_eq];omega
 have he:∃q,h'.get? s.heap.objs.size=some q:=let ⟨q,_,_,hq,_⟩:=Sw;⟨q,hq⟩
 exact mU I2 (by rw [e];exact True.intro) hs he (Bh hz hd (rk.merge .nil) Sw)
structure M1 (X:Cx) (o:Expr) (m:Str) (apos:Pos) (e:Expr) (cpos:Pos):Prop where
 base:attributeBase o m X.env (eval o X.env)=eval o X.env
 few:((backTo cpos (starEach [e] X.env)).all (fun x=>!x.1)&&(backToKw cpos (keywordEach [] X.env)).all (fun x=>x.1.isSome)
  &&decide (([e]:List Expr).length + ([]:List Keyword).length + (if ([]:List Keyword).isEmpty then 0 else 1) < 30))=true
 line:(apos.endLine==cpos.line)=true
 trees:backTo cpos (starEach [e] X.env)=[(false,eval e X.env)]
structure M2 (X:Cx) (o:Expr) (m:Str) (apos:Pos) (e f:Expr) (cpos:Pos):Prop where
 base:attributeBase o m X.env (eval o X.env)=eval o X.env
 few:((backTo cpos (starEach [e,f] X.env)).all (fun x=>!x.1)&&(backToKw cpos (keywordEach [] X.env)).all (fun x=>x.1.isSome)
  &&decide (([e,f]:List Expr).length + ([]:List Keyword).length + (if ([]:List Keyword).isEmpty then 0 else 1) < 30))=true
 line:(apos.endLine==cpos.line)=true
 trees:backTo cpos (starEach [e,f] X.env)=[(false,eval e X.env),(false,eval f X.env)]
section
variable {X:Cx} {pins:List (Addr×Obj)} {σ:St} {H:Hp} {s:Shared} {a:Addr} {y d:V} {u r:Value} {o:Option V} {A:Around} {E:Value→Shared→Prop}
end
section
variable {X:Cx} {o e f:Expr} {apos cpos:Pos} {td ty tx:TE}
end
section
variable {X:Cx} {pins:List (Addr×Obj)} {σ:St} {H:Hp} {s:Shared} {a:Addr} {kvs:List (Key×V)} {A:Around} {E:Value→Shared→Prop}
end
section
variable {X:Cx} {pins:List (Addr×Obj)} {σ:St} {H:Hp} {s:Shared} {a:Addr} {y:V} {u:Value} {A:Around} {E:Value→Shared→Prop}
end
end L2
namespace Att
open PySem PySem.W PySem.Calls PyProof.Rows
theorem vJ {P:Params} {h:Heap}:∀(ns:List Int) (vs:List Value),WellAll P h vs (ns.map WData.int)→IntsAre vs ns:=by
 intro ns;induction ns with
 | nil=>
  intro vs w;rw [List.map_nil] at w;cases w;exact .nil
 | cons n ns ih=>
  intro vs w;rw [List.map_cons] at w;cases w with
  | cons a b=>
   cases a;exact .cons _ _ (ih _ b)
theorem Mt {l:OpenLaw} {n:Nat} (hn:l.most=some n) {P:Params} {h:Heap} {args:List WData} {vals:List Value}
  (hpre:l.row.toRowW.claim.pre args=true) (hwl:WellAll P h vals args):
  ∃a vs ns,vals=[Value.ref a]∧args=[WData.list (ns.map WData.int)]∧h.get? a=some { cls:=.type "list",data:=.seq vs.toArray }∧IntsAre vs ns∧ns.length≤n:=by
 have hsh:WShape.hasAll [] args [.list .int]=true:=(pre_splitW hpre).1;have hc:l.pre.holds [] { args:=args }=true:=(pre_splitW hpre).2;obtain ⟨d,r,rfl,h1,h2⟩:=hasAllW_cons hsh;obtain rfl:=hasAllW_nil h2;obtain ⟨xs,rfl,h3⟩:=hasW_list h1;obtain ⟨ns,rfl⟩:=items_int h3;have hlen:ns.length≤n:=by
  unfold OpenLaw.pre at hc;have h4:(WTm.not (.lt (.lit (.int (n:Int))) (.len (.arg 0)))).holds [] { args:=[.list (ns.map .int)] }=true:=by
   have h4:=(holds_andW hc).1;rw [hn] at h4;exact h4
  have h5:=condW_of h4 (w_not (w_lt w_lit (w_len_list (w_arg rfl))));rw [List.length_map] at h5;refine Nat.le_of_not_lt fun q=>?_
  have q':(n:Int) < ((ns.length:Nat):Int):=by omega
  first
   | (rw [decide_eq_true q'] at h5;exact absurd h5 (by decide))
   | (simp at h5;omega)
 cases hwl with
 | cons w1 w2=>
  cases w2;cases w1 with
  | list ho hall=>exact ⟨_,_,ns,rfl,rfl,ho,vJ ns _ hall,hlen⟩
theorem Mu (l:OpenLaw) (args:List WData):l.row.toRowW.claim.post args (.bool true) args=true:=
 postW_of (r:=l.row.toRowW) (X:=(true==true))
  (show WShape.has [] (.bool true) .bool=true by first | rfl | decide | simp [WShape.has,WShape.arms,WShape.armsAll])
  (show (WTm.eq .res (.lit (.bool true))).value [] { args:=args,res:=some (.bool true),after:=args }=some (.bool (true==true)) from w_eq_bool (w_res rfl) w_lit) rfl
theorem Ed {l:OpenLaw} {n:Nat} {q:Program} {loose:List Str} {XP:(Str→Option Value)→Heap→Prop} {YP:World→Heap→Prop} {d:DefRec}
  (hn:l.most=some n) (hdf:d.params.defaults=[])
  (call:∀(w:World) (s₀ s₁:Shared) (mg mb:Str→Option Value) (fa:Addr) (o:Obj) (pm cd doc:Value) (a:Addr) (vs:List Value) (ns:List Int),
   Ground q loose [] XP w s₀ mg mb s₁.heap→YP w s₁.heap→
   s₁.heap.get? fa=some o→o.data=.func (docDef d.name d.params d.body d.scope pm cd doc)→s₁.heap.CodeRec cd d.name→mg d.name=some (.ref fa)→
   s₁.heap.get? a=some { cls:=.type "list",data:=.seq vs.toArray }→IntsAre vs ns→ns.length≤n→s₁.gens=#[]→
   codeAny (model l.prog w) callerA (.call (.ref fa) ⟨[.ref a],[]⟩) (fun r s'=>r=.ok (.ret (.bool true))∧OldK s₁.heap s'.heap∧s'.os=s₁.os∧AllBare s'.gens) s₁):
  WalkO q loose XP YP l.row.toRowW d [] (fun f vs=>PySem.call f vs):=by
 intro w s₀ s₁ mg mb G Y fa o pm cd doc dV kV ho hd hcd hD hmg hg args vals as hpre hlay hrd hwl hlo;obtain rfl:dV=.none:=Dflts.none hD hdf;obtain rfl:kV=.none:=Dflts.noKw hD;obtain ⟨a,vs,ns,rfl,rfl,hobj,hints,hlen⟩:=Mt hn hpre hwl;refine enter_call (codeAny_mono (call w s₀ s₁ mg mb fa o pm cd doc a vs ns G Y ho (fd_plain hd) hcd hmg hobj hints hlen hg) fun r s' hq=>?_);obtain ⟨rfl,h2,h3,h4⟩:=hq;exact ⟨.inl ⟨.bool true,.bool true,[],rfl,fun _=>rfl,.bool true,Mu l _,fun _=>⟨List.Pairwise.nil,fun _ hm=>(nomatch hm)⟩⟩,h2,h3,h4⟩
section
variable {prog:Program} {w:World} {A:Around} {E:Value→Shared→Prop} {s:Shared} {K:Frag}
def ledger (h:Heap) (L d:Addr):List (Addr×Obj):=(List.range h.objs.size).filterMap fun a=>if a=L∨a=d then none else (h.get? a).map fun o=>(a,o)
end
end Att
namespace L2
open PySem PySem.Spec PyProof.Rows
theorem ux:∀{vs:List Value} {ns:List Int},IntsAre vs ns→Vals (ns.map V.int) vs
 | _,_,.nil=>.nil
 | _,_,.cons n t h=>.cons ⟨t,rfl⟩ (ux h)
def Only (H:Hp):Prop:=∀b,H b=none∨∃o xs,H b=some (.DG o (.lst xs))
theorem Pg {P:Program} {w:World} {K:PySem.W.Frag} {mg mb:Str→Option Value} {CX:Mj} {k:Nat} {fa a:Addr} {fd:FuncData} {x:Str} {sp:Sp} {s₁:Shared} {vs:List Value} {ns:List Int}
  (KX:K.In s₁.heap) (hns:s₁.heap.Ns mainGlobals mg) (hb:s₁.heap.Ns builtinsNs mb) (hbb:∀x:Str,x≠"__name__"→mb x=bootBuiltins x) (hlim:s₁.heap.NoLimit) (hg:s₁.gens=#[])
  (ha:s₁.heap.get? a=some { cls:=.type "list",data:=.seq vs.toArray }) (hi:IntsAre vs ns) (hl:ns.length≤sizeLine) (hr:iz k callerA)
  (F:∀base:Heap,K.In base→base.Ns mainGlobals mg→cZ P w K mg base CX k fa fd [x] sp) (hbind:∀(s:Shared) (u:Value),BindsTo s fd ⟨[u],[]⟩ [(x,u)])
  (hsp:∀H:Hp,Only H→di K H a (ns.map V.int)→sp [.ref a] H (fun v _=>v=.bl true) fun _ _ _=>False)
  (hCX:∀H e s',CX [] H s₁ (fun _ _ _=>False) e s'→False):
  codeAny (model P w) callerA (.call (.ref fa) ⟨[.ref a],[]⟩) (fun r s'=>r=.ok (.ret (.bool true))∧OldK s₁.heap s'.heap∧s'.os=s₁.os∧AllBare s'.gens) s₁:=by
 have rv:=ux hi;have lenV:=hi.length;have core:∀H:Hp,Only H→di K H a (ns.map V.int)→rN P w H s₁.heap→(∀b,H b≠none→b=a)→(H a≠none→K.lookup a=none)→
   codeAny (model P w) callerA (.call (.ref fa) ⟨[.ref a],[]⟩) (fun r s'=>r=.ok (.ret (.bool true))∧OldK s₁.heap s'.heap∧s'.os=s₁.os∧AllBare s'.gens) s₁:=by
  intro H hO hS hok hA hK;have J2:∀{b:Addr} {o:Obj},s₁.heap.get? b=some o→H b=none→(Ao s₁.heap H).get? b=some o:=fun e n=>Od e n
  have Zj:∀{b:Addr} {o:Obj} {es:Array DictEntry} {ep:Nat},s₁.heap.get? b=some o→o.data=.dict es ep→H b=none:=fun {b o es ep} e d=>by
   cases q:H b with
   | none=>rfl
   | some u=>
    have e':b=a:=hA b (by rw [q];simp);subst e';rw [ha] at e;cases e;have d':Data.seq vs.toArray _=Data.dict es ep:=d;cases d'
  have nsK:∀{b:Addr} {m:Str→Option Value},s₁.heap.Ns b m→(Ao s₁.heap H).Ns b m:=fun {b m} ⟨o,es,ep,e,d,r⟩=>⟨o,es,ep,J2 e (Zj e d),d,r⟩
  have hKb:K.In (Ao s₁.heap H):=fun b o e=>J2 (KX b o e) (by
   cases q:H b with
   | none=>rfl
   | some u=>
    have e':b=a:=hA b (by rw [q];simp);subst e';rw [hK (by rw [q];simp)] at e;cases e)
  have hM:Mod K mg (Ao s₁.heap H):=⟨hKb,nsK hns,⟨mb,nsK hb,hbb⟩,let ⟨mc,h1,h2⟩:=hlim;⟨mc,nsK h1,h2⟩⟩
  have e0:HD P w K mg (Ao s₁.heap H) callerA [] s₁ H:=⟨rfl,hM,fun b o e=>SN e,Nat.le_of_eq (Ly _ _),trivial,fun b hb=>absurd (show b∈([]:List Addr) from hb) (by simp),hok,.of_eq hg⟩
  refine codeAny_mono ((F _ hKb (nsK hns)).run callerA [] s₁ H ⟨[.ref a],[]⟩ [.ref a] [.ref a] _ _ hr e0 (hbind s₁ (.ref a)) (.cons rfl .nil) (hsp H hO hS)) fun r s' h=>?_
  cases r with
  | error e=>exact (hCX H e s' h).elim
  | ok fl=>
   cases fl with
   | next=>exact False.elim h
   | brk=>exact False.elim h
   | cont=>exact False.elim h
   | ret u=>
    obtain ⟨v,H',os,bare,un,hok',r',q⟩:=h;have q':v=.bl true:=q;subst q';obtain rfl:u=Value.bool true:=r';refine ⟨rfl,OldK.of_keep fun b o e=>?_,os,bare⟩;cases q:H b with
    | none=>exact un.keep b o e q (by intro z;exact absurd (show b∈([]:List Addr) from z) (by simp)) (by simp)
    | some u=>
     rcases hO b with z | ⟨ob,xs,z⟩
     ·rw [q] at z;cases z
     ·have z2:=un.uq b ob _ z;obtain ⟨e1,_⟩:=hok b _ z;obtain ⟨e2,_⟩:=hok' b _ z2;rw [e] at e1;cases e1;exact e2
 cases hk:K.lookup a with
 | some o=>
  have e:=KX a o hk;rw [ha] at e;cases e;refine core (fun _=>none) (fun _=>.inl rfl) (.inr ⟨_,vs.toArray,_,hk,rfl,rfl,rfl,by rw [List.size_toArray,lenV];exact hl,by simpa using rv⟩) (fun b u z=>by have z':(none:Option HO)=some u:=z;cases z') (fun b z=>absurd rfl z) fun z=>absurd rfl z
 | none=>
  refine core (fun b=>if b=a then some (.DG { cls:=.type "list",data:=.seq vs.toArray } (.lst (ns.map V.int))) else none) (fun b=>?_) (.inl (.inr ⟨{ cls:=.type "list",data:=.seq vs.toArray },if_pos rfl⟩)) (fun b u z=>?_) (fun b z=>?_) fun _=>hk
  ·by_cases hb:b=a
   ·exact .inr ⟨_,_,if_pos hb⟩
   ·exact .inl (if_neg hb)
  ·by_cases hb:b=a
   ·have z':=(if_pos hb).symm.trans z;cases z';subst hb;exact ⟨ha,by rw [List.length_map];exact hl,vs,_,rv,ha⟩
   ·have z':=(if_neg hb).symm.trans z;cases z'
  ·by_cases hb:b=a
   ·exact hb
   ·exact absurd (if_neg hb) z
theorem TJ {l:PySem.W.OpenLaw} {n k:Nat} {q:Program} {loose:List Str} {XP:(Str→Option Value)→Heap→Prop} {YP:World→Heap→Prop} {d:DefRec} {K:Params→PySem.W.Frag} {CX:World→Mj} {sp:World→Sp} {x:Str}
  (hn:l.most=some n) (hn2:n≤sizeLine) (hdf:d.params.defaults=[]) (hr:iz k callerA)
  (hY:∀(w:World) (h:Heap),YP w h→(K w.params).In h)
  (F:∀(w:World) (mg:Str→Option Value) (fa:Addr) (h:Heap),(K w.params).In h→h.Ns mainGlobals mg→mg d.name=some (.ref fa)→
   ∃fd:FuncData,(∀(s:Shared) (u:Value),BindsTo s fd ⟨[u],[]⟩ [(x,u)])∧
    ∀base:Heap,(K w.params).In base→base.Ns mainGlobals mg→cZ l.prog w (K w.params) mg base (CX w) k fa fd [x] (sp w))
  (hsp:∀(w:World) (H:Hp) (a:Addr) (ns:List Int),ns.length≤n→Only H→di (K w.params) H a (ns.map V.int)→sp w [.ref a] H (fun v _=>v=.bl true) fun _ _ _=>False)
  (hCX:∀(w:World) (H:Hp) (s:Shared) (e:Value) (s':Shared),CX w [] H s (fun _ _ _=>False) e s'→False):
  PySem.W.WalkO q loose XP YP l.row.toRowW d [] (fun f vs=>PySem.call f vs):=by
 refine Att.Ed hn hdf fun w s₀ s₁ mg mb fa o pm cd doc a vs ns G Y ho hd hcd hmg hobj hints hlen hg=>?_
 have KX:=hY w _ Y;obtain ⟨fd,hb,hF⟩:=F w mg fa _ KX G.T.g hmg;exact Pg KX G.T.g G.T.b G.T.builtins G.T.nolimit hg hobj hints (Nat.le_trans hlen hn2) hr hF hb (fun H hO hS=>hsp w H a ns hlen hO hS) fun H e s'=>hCX w H s₁ e s'
def pU (s:Stmt):Arguments:=match s with
 | .FunctionDef _ a _ _ _ _ _ _ _ _=>a
 | _=>{ posonlyargs:=[],args:=[],vararg:=none,kwonlyargs:=[],kw_defaults:=[],kwarg:=none,defaults:=[] }
def kE (s:Stmt):List Stmt:=match s with
 | .FunctionDef _ _ b _ _ _ _ _ _ _=>b
 | _=>[]
def aN (s:Stmt):Scope:=match s with
 | .FunctionDef _ _ _ _ _ _ sc _ _ _=>sc
 | _=>{ kind:=.function,names:=[],isGenerator:=false,isCoroutine:=false }
abbrev oh:Mj:=fun _ _ _ _ _ _=>False
abbrev E0:XK:=fun _ _ _=>False
theorem Zz {X:Cx}:Passes oh X E0:=fun _ _ _ _ _ _ _ h=>h.elim
structure pW (K:PySem.W.Frag) (x qual:Str) (st:Stmt) (f:Addr) (fd:FuncData):Prop where
 ex:∃(oc:Value) (od:Option Addr) (kV doc pm:Value) (an:Option Addr) (cdv ct:Value) (osl:Array (Option Value)),
  fd=PySem.W.fnOf x qual (pU st) (kE st) (aN st) .none kV doc pm an cdv ct∧K.lookup f=some ⟨oc,od,.func fd,osl⟩∧PySem.W.codeIn K cdv qual=true
 kp:PySem.W.keepIn K (.ref f)=true
section
variable {P:Program} {w:World} {K:PySem.W.Frag} {mg:Str→Option Value} {base:Heap}
theorem pW.ok {x qual:Str} {st:Stmt} {f:Addr} {fd:FuncData} {N ps:List Str} {k:Nat} {sp:Sp} (F:pW K x qual st f fd) (S:bO N ps (aN st)) (len:∀vs H Q E,sp vs H Q E→vs.length=ps.length)
  (hbody:∀(cdv:Value) (A:Around) (outer:List Env) (s:Shared) (H:Hp) (vs:List V) (Q:VK) (E:XK),iz k (A.deeper (envOfC qual (aN st) s.heap.objs.size f cdv))→sp vs H Q E→
   ∃t,vI (HF oh P w K mg base N qual (aN st) f cdv A outer s H E).S8 (kE st) t∧t { nx:=fun _ H'=>Q .non H',rt:=Q } (start N vs) H):cZ P w K mg base oh (k + 1) f fd ps sp:=by
 obtain ⟨oc,od,kV,doc,pm,an,cdv,ct,osl,rfl,lk,hcd⟩:=F.ex;refine Zk lk hcd S len fun A outer s H vs Q E hr hsp=>?_
 obtain ⟨t,h,q⟩:=hbody cdv A outer s H vs Q E hr hsp;exact ⟨t,h.S8,q⟩
theorem pW.binds {x qual:Str} {st:Stmt} {f:Addr} {fd:FuncData} {ps:List Str} (F:pW K x qual st f fd)
  (h:∀(kV doc pm:Value) (an:Option Addr) (cdv ct:Value) (us:List Value),us.length=ps.length→bindArgs (PySem.W.fnOf x qual (pU st) (kE st) (aN st) .none kV doc pm an cdv ct) ⟨us,[]⟩=pure (ps.zip us)):Binds K fd ps []:=by
 obtain ⟨oc,od,kV,doc,pm,an,cdv,ct,osl,rfl,lk,hcd⟩:=F.ex;exact .all (h kV doc pm an cdv ct)
theorem HX {x qual:Str} {st:Stmt} {f:Addr} {oc:Value} {od an:Option Addr} {osl:Array (Option Value)} {kV doc pm cdv ct:Value} (l:K.lookup f=some ⟨oc,od,.func (PySem.W.fnOf x qual (pU st) (kE st) (aN st) .none kV doc pm an cdv ct),osl⟩)
  (c:PySem.W.codeIn K cdv qual=true) (k:PySem.W.keepIn K (.ref f)=true):pW K x qual st f (PySem.W.fnOf x qual (pU st) (kE st) (aN st) .none kV doc pm an cdv ct):=⟨⟨oc,od,kV,doc,pm,an,cdv,ct,osl,rfl,l,c⟩,k⟩
end
section
variable {X:Cx}
theorem pv (i:Nat) {x:Str} {pos:Pos} (hN:X.N[i]?=some x:=by rfl) (hv:Vis X.env.scope x:=by first | exact Or.inl rfl | exact Or.inr (Or.inl rfl) | exact Or.inr (Or.inr rfl)) (hd:(x==("__debug__":Str))=false:=by decide)
  (hcd:(x==("__classdict__":Str))=false:=by decide):PE X (.Name x pos) (wF i):=Wo hN hv hd hcd
end
theorem Ef {A B:Prop} (h:B):if false=true then A else B:=by
 rw [if_neg Bool.false_ne_true];exact h
theorem Eg {A B:Prop} (h:A):if true=true then A else B:=by
 rw [if_pos rfl];exact h
def bu (H H':Hp):Prop:=∀b o,H b=some o→H' b=some o
theorem bu.refl (H:Hp):bu H H:=fun _ _ h=>h
theorem bu.trans {H H1 H2:Hp} (a:bu H H1) (b:bu H1 H2):bu H H2:=fun c o h=>b c o (a c o h)
theorem bu.free {H H':Hp} (e:bu H H') {l:Addr} (h:H' l=Option.none):H l=Option.none:=by
 cases q:H l with
 | none=>rfl
 | some o=>
  rw [e l o q] at h;cases h
theorem bu.seq {K:PySem.W.Frag} {H H':Hp} {a:Addr} {xs:List V} (e:bu H H') (h:di K H a xs):di K H' a xs:=by
 rcases h with (h | ⟨o,h⟩) | h
 ·exact .inl (.inl (e _ _ h))
 ·exact .inl (.inr ⟨o,e _ _ h⟩)
 ·exact .inr h
section
variable {X:Cx}
theorem Mv:cY X (.builtin "len") (fun xs H Q=>∃a kvs,xs=[V.ref a]∧H a=some (.dK kvs)∧Q (.int kvs.length) H):=by
 intro pins s σ H xs us Q I r h;obtain ⟨a,kvs,rfl,ha,q⟩:=h;obtain ⟨u,rfl,ru⟩:=vals1 r;cases ru;exact Zx I (.inl ha) fun t s' I'=>⟨.int kvs.length,H,I',⟨t,rfl⟩,q⟩
end
section
variable {κ:Type} [DecidableEq κ]
end
def Cx.blk (X:Cx) (N:List Str) (scope:Scope) (cl:List (Str×Addr)) (C:Addr) (s:Shared) (H:Hp) (fp:List Addr):Cx:=
 { X with N:=N,s₀:=s,H₀:=H,env:=compEnvC scope cl C X.env,outer:=X.stack,ex:=fp,fn:=fun _=>false,pn:=[],xe:=fun _ _=>False }
theorem oJ {env:Env} (f:Str×NameKind→List (Str×Addr)→Sem (ForInStep (List (Str×Addr))))
  (hf:∀n k r,f (n,k) r=if k==NameKind.free then (do let c ←cellOf env n;pure (.yield ((n,c)::r))) else pure (.yield r)):
  ∀(names:List (Str×NameKind)) (cs:List (Str×Addr)),(∀y∈names,y.2=.free→∃c,env.cells.lookup y.1=some c)→(∀n c,cs.lookup n=some c→env.cells.lookup n=some c)→
   ∃cl,(forIn names cs f:Sem (List (Str×Addr)))=pure cl∧(∀n c,cl.lookup n=some c→env.cells.lookup n=some c)∧
    ∀n,((∃c,cs.lookup n=some c)∨∃y∈names,y.1=n∧y.2=.free)→∃c,cl.lookup n=some c
 | [],cs,_,h2=>⟨cs,rfl,h2,fun n h=>h.elim id fun ⟨_,hy,_⟩=>nomatch hy⟩
 | (n,k)::r,cs,h1,h2=>by
  rw [List.forIn_cons,hf];by_cases hk:k=.free
  ·subst hk;obtain ⟨c,hc⟩:=h1 (n,.free) List.mem_cons_self rfl;have hc':env.cells.lookup n=some c:=hc;have e:cellOf env n=pure c:=by unfold cellOf;rw [hc']
   obtain ⟨cl,q1,q2,q3⟩:=oJ f hf r ((n,c)::cs) (fun y hy=>h1 y (List.mem_cons_of_mem _ hy)) (fun m d hm=>by
    rw [List.lookup_cons] at hm;by_cases hb:(m==n)=true
    ·rw [hb] at hm;have:=eq_of_beq hb;subst this;cases hm;exact hc'
    ·rw [Bool.not_eq_true] at hb;rw [hb] at hm;exact h2 m d hm)
   refine ⟨cl,?_,q2,fun m hm=>q3 m ?_⟩
   ·rw [if_pos (show (NameKind.free==NameKind.free)=true from rfl),e];simp only [pure_bind];exact q1
   ·by_cases hb:m=n
    ·subst hb;exact .inl ⟨c,by simp [List.lookup_cons]⟩
    ·rcases hm with ⟨d,hm⟩ | ⟨y,hy,e1,e2⟩
     ·refine .inl ⟨d,?_⟩;rw [List.lookup_cons,beq_eq_false_iff_ne.mpr hb];exact hm
     ·rcases List.mem_cons.mp hy with rfl | hy
      ·exact absurd e1.symm hb
      ·exact .inr ⟨y,hy,e1,e2⟩
  ·have hb:(k==NameKind.free)=false:=beq_eq_false_iff_ne.mpr hk;obtain ⟨cl,q1,q2,q3⟩:=oJ f hf r cs (fun y hy=>h1 y (List.mem_cons_of_mem _ hy)) h2;refine ⟨cl,?_,q2,fun m hm=>q3 m ?_⟩
   ·rw [hb];simp only [Bool.false_eq_true,if_false,pure_bind];exact q1
   ·rcases hm with hm | ⟨y,hy,e1,e2⟩
    ·exact .inl hm
    ·rcases List.mem_cons.mp hy with rfl | hy
     ·exact absurd e2 hk
     ·exact .inr ⟨y,hy,e1,e2⟩
theorem mV {env:Env} {scope:Scope} (h1:∀y∈scope.names,y.2=.free→∃c,env.cells.lookup y.1=some c):
  ∃cl,closureFor scope env=pure cl∧(∀n c,cl.lookup n=some c→env.cells.lookup n=some c)∧∀y∈scope.names,y.2=.free→∃c,cl.lookup y.1=some c:=by
 unfold closureFor;obtain ⟨cl,q1,q2,q3⟩:=oJ (env:=env) (fun x r=>if (x.2==NameKind.free)=true then (do let c ←cellOf env x.1;pure (.yield ((x.1,c)::r))) else pure (.yield r)) (fun n k r=>rfl) scope.names [] h1 (fun n c h=>by simp at h);have q:=congrArg (fun t:Sem (List (Str×Addr))=>t >>= fun cs=>pure cs) q1;simp only [pure_bind] at q;exact ⟨cl,q,q2,fun y hy e=>q3 y.1 (.inr ⟨y,hy,rfl,e⟩)⟩
theorem sE {scope:Scope} {env:Env} {x:Str}:∀{names:List (Str×NameKind)},
  (names.map fun (n,k)=>if (k==NameKind.free&&env.scope.kind==.function&&env.kindOf n==some .cell) then (n,NameKind.cell) else (n,k)).lookup x=
   (names.lookup x).map fun k=>if (k==NameKind.free&&env.scope.kind==.function&&env.kindOf x==some .cell) then NameKind.cell else k
 | []=>rfl
 | (n,k)::r=>by
  have ih:=@sE scope env x r;show List.lookup x ((if (k==NameKind.free&&env.scope.kind==.function&&env.kindOf n==some .cell)=true then (n,NameKind.cell) else (n,k))::_)=_;cases hx:x==n with
  | true=>
   have e:=eq_of_beq hx;subst e;by_cases hc:(k==NameKind.free&&env.scope.kind==.function&&env.kindOf x==some .cell)=true
   ·rw [if_pos hc];simp only [List.lookup_cons,beq_self_eq_true,Option.map_some,hc,if_true]
   ·rw [if_neg hc];simp only [List.lookup_cons,beq_self_eq_true,Option.map_some,hc,if_false];rfl
  | false=>
   by_cases hc:(k==NameKind.free&&env.scope.kind==.function&&env.kindOf n==some .cell)=true
   ·rw [if_pos hc];simp only [List.lookup_cons,hx];exact ih
   ·rw [if_neg hc];simp only [List.lookup_cons,hx];exact ih
def frees (js:List Nat) (σ:St):St:=js.map fun j=>(σ[j]?).join
section
variable {X:Cx} {pins:List (Addr×Obj)} {σ:St} {H:Hp} {s s1:Shared} {NT NF:List Str} {js:List Nat} {scope:Scope} {cl:List (Str×Addr)} {fp:List Addr}
structure lZ (X:Cx) (NT NF:List Str) (js:List Nat) (scope:Scope):Prop where
 kind:scope.kind=.function
 names:∀y∈scope.names,y.2=.local→scope.names.lookup y.1=some .local
 cell:∀y∈scope.names,y.2≠.cell
 free:∀y∈scope.names,y.2=.free→X.env.scope.names.lookup y.1=some .cell∨X.env.scope.names.lookup y.1=some .free
 len:js.length=NF.length
 fr:∀(k:Nat) (j:Nat) (x:Str),js[k]?=some j→NF[k]?=some x→X.N[j]?=some x∧scope.names.lookup x=some .free
 tg:∀x∈NT,scope.names.lookup x=some .local
 nd:(NT++NF).Nodup
theorem Inv.blk (I:Inv X pins σ H s) (B:lZ X NT NF js scope) (q2:∀n c,cl.lookup n=some c→X.env.cells.lookup n=some c) (q3:∀y∈scope.names,y.2=.free→∃c,cl.lookup y.1=some c)
  (hf:∀b∈fp,j6 X pins H b) (hlt:∀b∈fp,b < s.heap.objs.size) {m:Str→Option Value} (hns:s1.heap.Ns s.heap.objs.size m) (keep:∀b o,s.heap.get? b=some o→s1.heap.get? b=some o)
  (hos:s1.os=s.os) (hg:AllBare s1.gens):
  Inv (X.blk (NT++NF) scope cl s.heap.objs.size s H fp) [] (List.replicate NT.length none++frees js σ) H s1:=by
 have look:∀x,(X.blk (NT++NF) scope cl s.heap.objs.size s H fp).env.kindOf x=(scope.names.lookup x).map fun k=>if (k==NameKind.free&&X.env.scope.kind==.function&&X.env.kindOf x==some .cell) then NameKind.cell else k:=fun x=>sE (scope:=scope)
 have Xe:∀x,((X.blk (NT++NF) scope cl s.heap.objs.size s H fp).env.kindOf x=some .cell∨(X.blk (NT++NF) scope cl s.heap.objs.size s H fp).env.kindOf x=some .free)→scope.names.lookup x=some .free:=fun x h=>by
  rw [look] at h;cases e:scope.names.lookup x with
  | none=>rw [e] at h;simp at h
  | some k=>
   rw [e] at h;by_cases hk:k=.free
   ·rw [hk]
   ·have hb:(k==NameKind.free)=false:=beq_eq_false_iff_ne.mpr hk;simp only [Option.map_some,hb,Bool.false_and,Bool.false_eq_true,if_false,Option.some.injEq] at h;rcases h with h | h
    ·subst h;exact absurd rfl (B.cell _ (PySem.mem_of_lookup e))
    ·exact absurd h hk
 have ltC:∀c x,X.env.cells.lookup x=some c→c < s.heap.objs.size:=fun c x e=>by
  obtain ⟨v,q⟩:=I.cell x c e;exact q.lt
 refine ⟨⟨I.ok.mod,B.kind,I.ok.glob,I.ok.blt,Nat.le_refl _,fun x y c h1 h2=>I.ok.inj x y c (q2 x c h1) (q2 y c h2),fun x hx=>?_,fun x c h _=>(nomatch (show false=true from h)),I.ok.hd,I.ok.frames,.inl rfl,fun b hb=>⟨Nat.ne_of_lt (hlt b hb),fun x c e=>(hf b hb).2.2.2.2.1 x c (q2 x c e)⟩,I.bs,Nat.le_trans I.ok.Sv I.sz,fun b o e hb=>?_,fun b hb hb2=>?_,I.stack,I.JN⟩,
  hos,hg,Un.kept keep,⟨m,hns,fun i x v h1 h2 h3=>?_⟩,fun x c e=>?_,I.hok.fresh (Nat.le_refl _),fun x c e=>I.oF x c (q2 x c e),fun p hp=>(nomatch (show p∈([]:List (Addr×Obj)) from hp)),I.hok.kept keep,?_⟩
 ·exact q3 _ (PySem.mem_of_lookup (Xe x hx)) rfl
 ·rcases (hf b hb).2.2.2.1 with z | z
  ·exact I.ok.Oe b o e z
  ·exact absurd (Nat.lt_of_lt_of_le (Heap.lt_size e) (Nat.le_trans I.ok.Sv z)) (Nat.lt_irrefl _)
 ·obtain ⟨_,f1,f2,_⟩:=hf b hb;rcases List.mem_cons.mp (I.ur b hb2) with z | z
  ·exact f1 z
  ·exact f2 z
 ·have h1':(NT++NF)[i]?=some x:=h1;by_cases hi:i < NT.length
  ·rw [List.getElem?_append_left (by simpa using hi),List.getElem?_replicate] at h2;split at h2 <;> cases h2
  ·have hi':NT.length≤i:=by omega
   rw [List.getElem?_append_right (by simpa using hi')] at h2;rw [List.getElem?_append_right hi'] at h1';simp only [List.length_replicate] at h2;unfold frees at h2;rw [List.getElem?_map] at h2;cases ej:js[i - NT.length]? with
   | none=>rw [ej] at h2;cases h2
   | some j=>
    rw [ej] at h2;have h2':(σ[j]?).join=some v:=by simpa using h2
    obtain ⟨g1,g2⟩:=B.fr _ j x ej h1';have hj:σ[j]?=some (some v):=by
     cases e:σ[j]? with
     | none=>rw [e] at h2';cases h2'
     | some o=>rw [e] at h2';simp at h2';rw [h2']
    have hk:=B.free _ (PySem.mem_of_lookup g2) rfl;have hk':X.env.scope.names.lookup x=some .cell∨X.env.scope.names.lookup x=some .free:=hk;obtain ⟨m0,hn0,hl0⟩:=I.loc;obtain ⟨u,r,l⟩:=hl0 j x v g1 hj (.inr hk');refine ⟨u,r,.inr ⟨?_,?_⟩⟩
    ·rw [look,g2];by_cases hc:(NameKind.free==NameKind.free&&X.env.scope.kind==.function&&X.env.kindOf x==some .cell)=true
     ·left;simp only [Option.map_some,hc,if_true]
     ·right;simp only [Option.map_some,hc,if_false];rfl
    ·rcases l with ⟨k0,_⟩ | ⟨_,c,e,z⟩
     ·have k0':X.env.scope.names.lookup x=some .local:=k0;rcases hk' with z | z <;> rw [z] at k0' <;> cases k0'
     ·obtain ⟨c',hc'⟩:=q3 _ (PySem.mem_of_lookup g2) rfl;have hc2:cl.lookup x=some c':=hc';have e2:=q2 x c' hc2;rw [e] at e2;cases e2;obtain ⟨o,ho,hd⟩:=z;exact ⟨c,hc2,o,keep c o ho,hd⟩
 ·obtain ⟨v,o,ho,hd⟩:=I.cell x c (q2 x c e);exact ⟨v,o,keep c o ho,hd⟩
 ·show (List.replicate NT.length none++frees js σ).length=(NT++NF).length;unfold frees;simp [B.len]
theorem Inv.Ph {N:List Str} {σ':St} {H':Hp} {s':Shared} {JQ:List (Addr×Obj)} (I:Inv X pins σ H s) (hf:∀b∈fp,j6 X pins H b) (J:Inv (X.blk N scope cl s.heap.objs.size s H fp) JQ σ' H' s'):Inv X pins σ H' s':=
 I.call' J.os J.base J.hok J.bare fun b hb=>⟨(hf b hb).2.2.2.1,(hf b hb).2.1,(hf b hb).2.2.2.2.1,(hf b hb).2.2.2.2.2⟩
end
theorem TQ {α:Type} (a:List α) (x y:α) (b:List α) {n:Nat} (h:a.length=n):(a++x::b).set n y=a++y::b:=by
 subst h;rw [List.set_append_right _ _ (Nat.le_refl _),Nat.sub_self];rfl
inductive ou where
 | one | many (n:Nat)
def VH (K:PySem.W.Frag):ou→V→Hp→List V→Prop
 | .one,x,_,vs=>vs=[x]
 | .many n,x,H,vs=>∃a,x=.ref a∧jD K H a vs∧vs.length=n
def isNm (e:Expr) (x:Str):Prop:=∃pos,e=.Name x pos
def sG (tg:Expr) (NT:List Str):ou→Prop
 | .one=>∃x,isNm tg x∧NT=[x]
 | .many n=>∃es k pos,tg=.Tuple es k pos∧Paired isNm es NT∧NT.length=n
theorem wV {env:Env}:∀{es:List Expr} {NT:List Str},Paired isNm es NT→assignEach es env=es.map fun e=>(false,assign e env)
 | _,_,.nil=>rfl
 | _,_,.cons ⟨pos,e⟩ t=>by
  subst e;show (false,assign _ env)::assignEach _ env=_;rw [wV t];rfl
section
variable {X:Cx} {pins:List (Addr×Obj)} {H:Hp} {E:Value→Shared→Prop}
theorem Mw {NT:List Str} {es:List Expr} (p:Paired isNm es NT):∀{pre NF:List Str} {σp fs:St} {s:Shared} {vs:List V} {us:List Value} {Q:Unit→Shared→Prop},
  X.N=pre++NT++NF→X.N.Nodup→(∀x∈NT,X.env.scope.names.lookup x=some .local)→σp.length=pre.length→vs.length=NT.length→
  Inv X pins (σp++(List.replicate NT.length none++fs)) H s→Vals vs us→(∀s',Inv X pins (σp++(vs.map some++fs)) H s'→Q () s')→
  wpAny (model X.prog X.w) X.A (assignInOrder (es.map fun e=>assign e X.env) us) Q E s:=by
 induction p with
 | nil=>
  intro pre NF σp fs s vs us Q hN nd hl hp hv I r q;cases vs with
  | cons _ _=>simp at hv
  | nil=>
   cases r;exact assignInOrder_nil (q s I)
 | @cons e x es NT he t ih=>
  intro pre NF σp fs s vs us Q hN nd hl hp hv I r q;cases vs with
  | nil=>simp at hv
  | cons v vs=>
   cases r with
   | cons r rr=>
    obtain ⟨pos,rfl⟩:=he;have hx:=hl x List.mem_cons_self;have hi:X.N[pre.length]?=some x:=by
     rw [hN,List.append_assoc,List.getElem?_append_right (Nat.le_refl _)];simp
    refine assignInOrder_cons (wpAny_assign_Name (fK I nd hi (.inl hx) r (fun s' I'=>?_) (.inr hx)));have e1:(σp++(List.replicate (x::NT).length none++fs)).set pre.length (some v)=(σp++[some v])++(List.replicate NT.length none++fs):=by
     exact (TQ σp none (some v) (List.replicate NT.length none++fs) hp).trans (List.append_cons σp (some v) (List.replicate NT.length none++fs))
    rw [e1] at I';refine ih (pre:=pre++[x]) (NF:=NF) (σp:=σp++[some v]) (by rw [hN];simp) nd (fun y hy=>hl y (List.mem_cons_of_mem _ hy)) (by simp [hp]) (by simpa using hv) I' rr fun s2 I2=>q s2 ?_
    have e2:σp++[some v]++(vs.map some++fs)=σp++((v::vs).map some++fs):=by simp
    rw [e2] at I2;exact I2
theorem Xf {tg:Expr} {NT NF:List Str} {T:ou} {fs:St} {s:Shared} {v:V} {u:Value} {vs:List V} {Q:Unit→Shared→Prop} (tk:sG tg NT T) (hN:X.N=NT++NF) (nd:X.N.Nodup) (hc:X.calm=true)
  (hl:∀x∈NT,X.env.scope.names.lookup x=some .local) (I:Inv X pins (List.replicate NT.length none++fs) H s) (r:RelV v u) (hv:VH X.K T v H vs)
  (q:∀s',Inv X pins (vs.map some++fs) H s'→Q () s'):wpAny (model X.prog X.w) X.A (assign tg X.env u) Q E s:=by
 cases T with
 | one=>
  obtain ⟨x,⟨pos,rfl⟩,rfl⟩:=tk;have hv':vs=[v]:=hv;subst hv';have hx:=hl x List.mem_cons_self;exact wpAny_assign_Name (fK I nd (i:=0) (by rw [hN];rfl) (.inl hx) r (fun s' I'=>q s' I') (.inr hx))
 | many n=>
  obtain ⟨es,k,pos,rfl,p,hn⟩:=tk;obtain ⟨a,rfl,hq,hlen⟩:=hv;cases r;obtain ⟨its,rv,ht,hz⟩:=I.tuple hq;have e:=wV (env:=X.env) p;have hpl:=p.length;refine assign_Tuple_tuple (I.ok.hd hc) ht (by rw [e];simp only [List.length_map,List.size_toArray];rw [←rv.length];omega) (by rw [e];simp) fun h' hx=>?_
  have I1:Inv X pins (List.replicate NT.length none++fs) H { s with heap:=h' }:=I.kept (t':=s.toks) fun b o e=>hx b o (Nat.ne_of_lt (Heap.lt_size e)) e
  rw [e,List.map_map];exact Mw p (pre:=[]) (σp:=[]) (by rw [hN];rfl) nd hl rfl (by omega) I1 (by simpa using rv) q
end
def turnOf (target iter:Expr) (ifs:List Expr) (it:Value) (env:Env) (emit:Sem Unit) (more:Sem PySem.Fin):Sem PySem.Fin:=do
 standAt iter.pos
 match ←pyNext it with
 | none=>pure (.done .next)
 | some v=>
  letOwnedTupleGo target it v
  assign target env v
  let mut ok:=true
  for c in ifs do
   if ok then ok ←isTrue c env (eval c env)
  if ok then emit
  more
theorem HY (elt target iter:Expr) (ifs:List Expr) (scope:Scope) (pos:Pos) (it acc:Value) (env:Env):
  compTurn (.ListComp elt [⟨target,iter,ifs,0⟩] scope pos) 0 it acc env=turnOf target iter ifs it env (do let _ ←call (.builtin "list.append") [acc,←eval elt env]) (again (.compLoop (.ListComp elt [⟨target,iter,ifs,0⟩] scope pos) 0 it acc env)):=by rfl
theorem H9 (kx vx target iter:Expr) (ifs:List Expr) (scope:Scope) (pos:Pos) (it:Value) (D:Addr) (env:Env):
  compTurn (.DictComp kx vx [⟨target,iter,ifs,0⟩] scope pos) 0 it (.ref D) env=turnOf target iter ifs it env (do
      let kv ←eval kx env
      let vv ←holding [kv] (eval vx env)
      standAt { kx.pos with endLine:=vx.pos.endLine,endCol:=vx.pos.endCol }
      holding [kv,vv] (dictSet D kv vv)) (again (.compLoop (.DictComp kx vx [⟨target,iter,ifs,0⟩] scope pos) 0 it (.ref D) env)):=by rfl
theorem Mx (elt target iter:Expr) (ifs:List Expr) (scope:Scope) (pos:Pos) (it acc:Value) (env:Env):
  compTurn (.SetComp elt [⟨target,iter,ifs,0⟩] scope pos) 0 it acc env=turnOf target iter ifs it env (do let v ←eval elt env;standAt elt.pos;let _ ←call (.builtin "set.add") [acc,v]) (again (.compLoop (.SetComp elt [⟨target,iter,ifs,0⟩] scope pos) 0 it acc env)):=by rfl
def Hh (X:Cx) (ifs:List Expr) (t:TT):Prop:=
 ∀(pins:List (Addr×Obj)) (s:Shared) (σ:St) (H:Hp) (Q:Bool→Hp→Prop),Inv X pins σ H s→t σ H Q→
  wpAny (model X.prog X.w) X.A (forIn ifs true fun c r=>if r=true then do let ok ←isTrue c X.env (eval c X.env);pure (ForInStep.yield ok) else pure (ForInStep.yield r)) (TP X pins σ Q) X.xe s
def abl:TT:=fun _ H Q=>Q true H
theorem TV {X:Cx}:Hh X [] abl:=fun _ _ _ H _ I h=>wpAny_tests_nil ⟨H,I,h⟩
theorem TX {X:Cx} {c:Expr} {t:TT} (h:PT X c t):Hh X [c] t:=fun pins s σ H Q I q=>wpAny_tests_one (h pins s σ H Q I q)
abbrev TM:=St→Hp→(Hp→Prop)→Prop
def PM (X:Cx) (emit:Sem Unit) (t:TM):Prop:=
 ∀(pins:List (Addr×Obj)) (s:Shared) (σ:St) (H:Hp) (Q:Hp→Prop),Inv X pins σ H s→t σ H Q→
  wpAny (model X.prog X.w) X.A emit (fun _ s'=>∃H',Inv X pins σ H' s'∧Q H') X.xe s
def Bj (D:Addr) (te:TE):TM:=fun σ H Q=>te σ H fun y H1=>∃xs,H1 D=some (.lst xs)∧xs.length < sizeLine∧Q (upd H1 D (.lst (xs++[y])))
theorem My {X:Cx} {D:Addr} {elt:Expr} {te:TE} (he:PE X elt te):PM X (do let _ ←call (.builtin "list.append") [.ref D,←eval elt X.env]) (Bj D te):=by
 intro pins s σ H Q I h;refine wpAny_bind (cX (he pins s σ H _ I h) fun v s1 aZ=>?_);obtain ⟨y,H1,I1,r1,xs,hD,hz,q⟩:=aZ;refine wpAny_bind (cX (zR (X:=X) pins s1 σ H1 (.ref D) [y] (.ref D) [v] (fun _ H'=>Q H') I1 rfl (.cons r1 .nil) ⟨D,xs,y,rfl,rfl,hD,hz,q⟩) fun _ s2 ⟨_,H2,I2,_,q2⟩=>wpAny_pure ⟨H2,I2,q2⟩)
def Eh (K:PySem.W.Frag) (T:ou) (ts:TT) (em:TM) (fs:St) (J:It) (H0:Hp) (done:Hp→Prop):Prop:=
 ∃W:Nat→Nat→Hp→Prop,(∃m,W 0 m H0)∧∀i m H,W i m H→
  (J.stop i H∧done H)∨(J.go i H∧∀x H',J.Vx i H x H'→∃vs,VH K T x H' vs∧
   ts (vs.map some++fs) H' fun b H2=>if b=true then em (vs.map some++fs) H2 fun H3=>∃m',m' < m∧W (i + 1) m' H3 else ∃m',m' < m∧W (i + 1) m' H2)
section
variable {X:Cx} {NT NF:List Str} {tg iter e:Expr} {ifs:List Expr} {T:ou} {ts:TT} {em:TM} {emit:Sem Unit} {acc:Value} {fp:List Addr} {it:Addr} {J:It} {tn:Nat→Heap→Prop}
theorem Pj {fs:St} {vs:List V} {pins:List (Addr×Obj)} {H:Hp} {s:Shared} (hv:vs.length=NT.length) (I:Inv X pins (vs.map some++fs) H s):Inv X pins (List.replicate NT.length none++fs) H s:=
 I.weak (by simp [hv]) fun i v h=>by
  by_cases hi:i < NT.length
  ·rw [List.getElem?_append_left (by simpa using hi),List.getElem?_replicate] at h;split at h <;> cases h
  ·rw [List.getElem?_append_right (by simp;omega)] at h ⊢;simpa [hv] using h
theorem VH.len {tg:Expr} {K:PySem.W.Frag} {x:V} {H:Hp} {vs:List V} (tk:sG tg NT T) (h:VH K T x H vs):vs.length=NT.length:=by
 cases T with
 | one=>obtain ⟨y,_,rfl⟩:=tk;rw [show vs=[x] from h];rfl
 | many n=>obtain ⟨_,_,_,_,_,e⟩:=tk;obtain ⟨_,_,_,e'⟩:=h;omega
theorem wW {R:Result→Shared→Prop} {fs:St} {H:Hp} {s:Shared} {done:Hp→Prop} (hx:X.xe=fun _ _=>False) (hT:compTurn e 0 (.ref it) acc X.env=turnOf tg iter ifs (.ref it) X.env emit (again (.compLoop e 0 (.ref it) acc X.env)))
  (hq:(Code.compLoop e 0 (.ref it) acc X.env).isFrame=false) (hqu:(Code.compLoop e 0 (.ref it) acc X.env).quiet=true) (hA:X.A.under (Code.compLoop e 0 (.ref it) acc X.env)=X.A)
  (tk:sG tg NT T) (hN:X.N=NT++NF) (nd:X.N.Nodup) (hc:X.calm=true) (hl:∀x∈NT,X.env.scope.names.lookup x=some .local)
  (hts:Hh X ifs ts) (hem:PM X emit em) (TT:Turn X.prog X.w X.K tg J fp it tn) (hf:∀b∈fp,j6 X [] H b) (I:Inv X [] (List.replicate NT.length none++fs) H s) (st:tn 0 s.heap) (hb:Eh X.K T ts em fs J H done)
  (hR:∀H' s' σ',Inv X [] σ' H' s'→done H'→R (.ok .next) s'):
  codeAny (model X.prog X.w) X.A (.compLoop e 0 (.ref it) acc X.env) R s:=by
 obtain ⟨W,⟨m0,w0⟩,turn⟩:=hb;have stat:∀{H':Hp},(∀b∈fp,H' b=none)→∀b∈fp,j6 X [] H' b:=fun hn b hb=>⟨hn b hb,(hf b hb).2⟩
 have noE:∀{α:Type} {t:Sem α} {Q:α→Shared→Prop} {E:Value→Shared→Prop} {s:Shared},wpAny (model X.prog X.w) X.A t Q (fun _ _=>False) s→wpAny (model X.prog X.w) X.A t Q E s:=fun h=>wpAny_mono h (fun _ _ z=>z) fun _ _ z=>z.elim
 have noX:∀{α:Type} {t:Sem α} {Q:α→Shared→Prop} {E:Value→Shared→Prop} {s:Shared},wpAny (model X.prog X.w) X.A t Q X.xe s→wpAny (model X.prog X.w) X.A t Q E s:=fun h=>noE (by rw [hx] at h;exact h)
 refine codeAny_loop hqu (fun n s'=>∃i H',Inv X [] (List.replicate NT.length none++fs) H' s'∧tn i s'.heap∧(∀b∈fp,H' b=none)∧W i n H') ?_ m0 ⟨0,H,I,st,fun b hb=>(hf b hb).1,w0⟩;rintro n s3 ⟨i,H3,I3,st3,Y7,w3⟩;rw [hA];show wpAny _ X.A (if (Code.compLoop e 0 (.ref it) acc X.env).isFrame=true then (compTurn e 0 (.ref it) acc X.env).onRaise (leaving X.env) else (compTurn e 0 (.ref it) acc X.env).onRaise (fun x=>do noteFrame x X.env;theTreesLotGoes x)) _ _ s3;rw [hq,if_neg Bool.false_ne_true];refine wpAny_noted (noE ?_);rw [hT];unfold turnOf;refine wpAny_bind (wpAny_standAt (wpAny_bind ?_));rcases turn i n H3 w3 with ⟨stop,qn⟩ | ⟨go,step⟩
 ·refine cX (TT.done X rfl rfl rfl hc i [] s3 _ H3 _ I3 (stat Y7) st3 stop) fun r s4 aZ=>?_
  obtain ⟨hr,I4⟩:=aZ;subst hr;exact wpAny_pure (hR H3 s4 _ I4 qn)
 ·refine cX (TT.item X rfl rfl rfl hc i [] s3 _ H3 _ I3 (stat Y7) st3 go) fun r s4 aZ=>?_
  obtain ⟨u,hr,h4⟩:=aZ;subst hr;refine wpAny_bind (cX h4 fun _ s5 aZ=>?_);obtain ⟨x,H5,I5,r5,y5,WK,fr5⟩:=aZ;have I5':=I5.pinned (stat fr5) (TT.obj _ _ WK);obtain ⟨vs,hv,q5⟩:=step x H5 y5;have hvl:=VH.len tk hv;refine wpAny_bind (Xf tk hN nd hc hl I5' r5 hv fun s6 I6=>?_);refine wpAny_bind (noX (cX (hts _ s6 _ H5 _ I6 q5) fun b s7 aZ=>?_));obtain ⟨H7,I7,q7⟩:=aZ;have Pk:∀{s8:Shared} {H8:Hp},Inv X ([]++wH fp s5.heap) (vs.map some++fs) H8 s8→(∃m',m' < n∧W (i + 1) m' H8)→
    (Code.compLoop e 0 (.ref it) acc X.env=Code.compLoop e 0 (.ref it) acc X.env)∧∃m,m < n∧∃i H',Inv X [] (List.replicate NT.length none++fs) H' s8∧tn i s8.heap∧(∀b∈fp,H' b=none)∧W i m H':=fun {s8 H8} I8 n8=>by
   obtain ⟨m',hm,w8⟩:=n8;refine ⟨rfl,m',hm,i + 1,H8,Pj hvl I8.rT,TT.keep _ _ _ WK fun b hb o e=>(I8.pin (b,o) (List.mem_append_right _ (List.mem_append_right _ (mR hb e)))).1,fun b hb=>?_,w8⟩;obtain ⟨o,e,d⟩:=TT.obj _ _ WK b hb;exact (I8.pin (b,o) (List.mem_append_right _ (List.mem_append_right _ (mR hb e)))).2.1
  cases b with
  | false=>exact wpAny_pure (Pk I7 q7)
  | true=>exact wpAny_bind (noX (cX (hem _ s7 _ H7 _ I7 q7) fun _ s8 ⟨H8,I8,q8⟩=>wpAny_pure (Pk I8 q8)))
end
structure Bk where
 cl:List (Str×Addr)
 C:Addr
 s:Shared
 H:Hp
 fp:List Addr
abbrev Cx.bk (X:Cx) (N:List Str) (scope:Scope) (b:Bk):Cx:=X.blk N scope b.cl b.C b.s b.H b.fp
section
variable {X:Cx} {NT NF:List Str} {js:List Nat} {elt kx vx tg iter e:Expr} {ifs:List Expr} {T:ou} {wi:TI} {ts:Bk→TT} {te tk' tv:Bk→TE} {scope:Scope} {pos:Pos}
def tLC (K:PySem.W.Frag) (wi:TI) (T:ou) (ts:Bk→TT) (te:Bk→TE) (js:List Nat):TE:=fun σ H Q=>wi σ H fun J H1=>∀D,H1 D=none→∀b,Eh K T (ts b) (Bj D (te b)) (frees js σ) J (upd H1 D (.lst [])) (Q (.ref D))
theorem Pn {pins:List (Addr×Obj)} {σ:St} {s2:Shared} {H2:Hp} {cl:List (Str×Addr)} {it:Addr} {fp:List Addr} {tn:Nat→Heap→Prop} {J:It} {Q:Hp→Prop} {RR:Value→Addr→Result→Shared→Prop} {E:Value→Shared→Prop}
  (B:lZ X NT NF js scope) (tk:sG tg NT T) (hc:X.calm=true)
  (hin:∀b,Hh (X.bk (NT++NF) scope b) ifs (ts b)∧PE (X.bk (NT++NF) scope b) elt (te b))
  (q2:∀n c,cl.lookup n=some c→X.env.cells.lookup n=some c) (q3:∀y∈scope.names,y.2=.free→∃c,cl.lookup y.1=some c)
  (I2:Inv X pins σ H2 s2) (TT:Turn X.prog X.w X.K tg J fp it tn) (st2:tn 0 s2.heap) (f2:∀b∈fp,j6 X pins H2 b)
  (q:∀b,Eh X.K T (ts b) (Bj s2.heap.objs.size (te b)) (frees js σ) J (upd H2 s2.heap.objs.size (.lst [])) Q)
  (hR:∀C H' s' m,Inv X pins σ H' s'→j6 X pins H' C→s'.heap.Ns C m→Q H'→RR (.ref s2.heap.objs.size) C (.ok .next) s'):
  wpAny (model X.prog X.w) X.A (newList []) (fun acc s₃=>wpAny (model X.prog X.w) X.A (newFunctionEnv scope X.env.globals cl [] X.env.qual none .none (some X.env)) (fun cenv s₄=>
   codeAny (model X.prog X.w) X.A (.compStart (.ListComp elt [⟨tg,iter,ifs,0⟩] scope pos) 0 (.ref it) acc { cenv with scope:=relabel scope X.env }) (RR acc cenv.locals) s₄) E s₃) E s2:=by
 refine wpAny_newObj_type ?_;have hD:H2 s2.heap.objs.size=none:=I2.hok.fresh (Nat.le_refl _);have I3:Inv X pins σ (upd H2 s2.heap.objs.size (.lst [])) { s2 with heap:=s2.heap.push { cls:=.type "list",dict:=none,data:=.seq ([]:List Value).toArray } }:=
  I2.laid (t':=s2.toks) (fun b o e=>Heap.get?_push_of_some _ e) (Nat.le_refl _) ⟨Nat.zero_le _,[],0,.nil,Heap.get?_push_size _ rfl⟩
 have hsz:(s2.heap.push { cls:=.type "list",dict:=none,data:=.seq ([]:List Value).toArray }).objs.size=s2.heap.objs.size + 1:=Heap.size_push ..;refine wpAny_newFunctionEnv B.cell (by intro y hy;simp at hy) (fun h₁ hns₁ hsb₁=>?_) B.kind;have Sx:∀b∈fp,b < s2.heap.objs.size:=fun b hb=>by
  obtain ⟨o,e,_⟩:=TT.obj 0 _ st2 b hb;exact Heap.lt_size e
 have f3:∀b∈fp,j6 X pins (upd H2 s2.heap.objs.size (.lst [])) b:=fun b hb=>⟨by rw [aV (Nat.ne_of_lt (Sx b hb))];exact (f2 b hb).1,(f2 b hb).2⟩
 have keep:∀b o,(s2.heap.push { cls:=.type "list",dict:=none,data:=.seq ([]:List Value).toArray }).get? b=some o→h₁.get? b=some o:=fun b o e=>
  hsb₁.extBut b o (Nat.ne_of_lt (Heap.lt_size e)) (Heap.get?_push_of_some _ e)
 have VJ:∀b∈fp,b < (s2.heap.push { cls:=.type "list",dict:=none,data:=.seq ([]:List Value).toArray }).objs.size:=fun b hb=>by have:=Sx b hb;rw [hsz];exact Nat.lt_succ_of_lt this
 have I4:=I3.blk (s1:={ s2 with heap:=h₁,toks:=s2.toks + ([]:List (Str×Value)).length }) B q2 q3 f3 VJ hns₁ keep rfl I2.bare;have VL:tn 0 h₁:=TT.keep 0 _ _ st2 fun b _ o e=>keep b o (Heap.get?_push_of_some _ e)
 obtain ⟨i1,i2⟩:=hin ⟨cl,(s2.heap.push { cls:=.type "list",dict:=none,data:=.seq ([]:List Value).toArray }).objs.size,{ s2 with heap:=s2.heap.push { cls:=.type "list",dict:=none,data:=.seq ([]:List Value).toArray } },upd H2 s2.heap.objs.size (.lst []),fp⟩;have loop:codeAny (model X.prog X.w) X.A (.compLoop (.ListComp elt [⟨tg,iter,ifs,0⟩] scope pos) 0 (.ref it) (.ref s2.heap.objs.size) (compEnvC scope cl (s2.heap.push { cls:=.type "list",dict:=none,data:=.seq ([]:List Value).toArray }).objs.size X.env))
   (RR (.ref s2.heap.objs.size) (s2.heap.push { cls:=.type "list",dict:=none,data:=.seq ([]:List Value).toArray }).objs.size) { s2 with heap:=h₁,toks:=s2.toks + ([]:List (Str×Value)).length }:=by
  refine wW (X:=X.blk (NT++NF) scope cl (s2.heap.push { cls:=.type "list",dict:=none,data:=.seq ([]:List Value).toArray }).objs.size { s2 with heap:=s2.heap.push { cls:=.type "list",dict:=none,data:=.seq ([]:List Value).toArray } } (upd H2 s2.heap.objs.size (.lst [])) fp)
   (T:=T) (fs:=frees js σ) (done:=Q) rfl (HY elt tg iter ifs scope pos _ _ _) rfl rfl rfl tk rfl B.nd hc (fun x hx=>lookup_relabel_local (B.tg x hx)) i1 (My i2) TT (fun b hb=>?_) I4 VL (q _) fun H' s' σ' J' qd=>?_
  ·exact ⟨(f3 b hb).1,Nat.ne_of_lt (VJ b hb),fun hb2=>by
    rcases List.mem_cons.mp (I3.ur b hb2) with z | z
    ·exact (f3 b hb).2.1 z
    ·exact (f3 b hb).2.2.1 z,.inl hb,fun x c e=>(f3 b hb).2.2.2.2.1 x c (q2 x c e),fun p hp=>(nomatch (show p∈([]:List (Addr×Obj)) from hp))⟩
  ·obtain ⟨m,hn,_⟩:=J'.loc;exact hR _ H' s' m (I3.Ph f3 J') (I3.Av (Nat.le_refl _) J'.free) hn qd
 exact codeAny_compStart_list loop (TT.self _ 0 _ _ _ VL loop)
theorem ZC (B:lZ X NT NF js scope) (tk:sG tg NT T) (hc:X.calm=true) (hi:PI X tg iter wi)
  (hin:∀b,Hh (X.bk (NT++NF) scope b) ifs (ts b)∧PE (X.bk (NT++NF) scope b) elt (te b))
  (hs:∀x,foldedSetIterable iter X.env x=pure x:=by intro _;rfl):PE X (.ListComp elt [⟨tg,iter,ifs,0⟩] scope pos) (tLC X.K wi T ts te js):=by
 intro pins s σ H Q I h;obtain ⟨cl,hclos,q2,q3⟩:=mV (env:=X.env) (scope:=scope) fun y hy e=>I.ok.has y.1 (B.free y hy e)
 rw [eval_ListComp];refine wpAny_comprehension_free (use:=none) rfl hs hclos B.kind B.names (cX (hi pins s σ H _ I h) fun v s1 h1=>cX h1 fun itv s2 aZ=>?_);obtain ⟨it,fp,tn,J,H2,e,I2,TT,st2,f2,q⟩:=aZ;subst e;refine Pn (Q:=fun H'=>Q (.ref s2.heap.objs.size) H') (RR:=fun acc C=>compPost (model X.prog X.w) X.A X.xe none (EP X pins σ Q) acc C) B tk hc hin q2 q3 I2 TT st2 f2 (q _ (I2.hok.fresh (Nat.le_refl _))) fun C H' s' m I' fC hn qd=>?_
 refine ⟨m,hn,fun h' sb=>⟨.ref s2.heap.objs.size,H',?_,rfl,qd⟩⟩;exact I'.turned (t':=s'.toks) (fun b o hb e=>(sb.2 b hb).trans e) fC.1 fC.2.1 fC.2.2.2.1 fC.2.2.2.2.1 fC.2.2.2.2.2
theorem Pq {i:Nat} {y:Str} {pos' spos:Pos} (B:lZ X NT NF js scope) (tk:sG tg NT T) (hc:X.calm=true) (hi:PI X tg iter wi)
  (hin:∀b,Hh (X.bk (NT++NF) scope b) ifs (ts b)∧PE (X.bk (NT++NF) scope b) elt (te b))
  (hsw:swapsWith (.ListComp elt [⟨tg,iter,ifs,0⟩] scope pos) (some (.Name y pos')) spos.line X.env=pure true)
  (hN:X.N.Nodup) (hI:X.N[i]?=some y) (hy:X.env.scope.names.lookup y=some .local)
  (hs:∀x,foldedSetIterable iter X.env x=pure x:=by intro _;rfl):PS X (.Assign [.Name y pos'] (.ListComp elt [⟨tg,iter,ifs,0⟩] scope pos) spos) (LC (tLC X.K wi T ts te js) (u9 i)):=by
 intro pins s σ H D I h;obtain ⟨cl,hclos,q2,q3⟩:=mV (env:=X.env) (scope:=scope) fun y hy e=>I.ok.has y.1 (B.free y hy e)
 rw [exec_Assign_Name_used _ _ _ _ hsw];refine wpAny_bind (wpAny_standAt (wpAny_bind ?_));show wpAny _ X.A (do let _ ←comprehension (.ListComp elt [⟨tg,iter,ifs,0⟩] scope pos) scope X.env _ (newList []) false (eval iter X.env) (some (assign (.Name y pos') X.env))) _ _ s;refine wpAny_bind (wpAny_mono (wpAny_comprehension_free (use:=some (assign (.Name y pos') X.env)) (Q:=fun _ s'=>SP X pins D .next s') rfl hs hclos B.kind B.names
  (cX (hi pins s σ H _ I h) fun v s1 h1=>cX h1 fun itv s2 ⟨it,fp,tn,J,H2,e,I2,TT,st2,f2,q⟩=>?_)) (fun _ s' hq=>wpAny_pure (wpAny_pure hq)) fun _ _ e=>e)
 subst e;refine Pn (Q:=fun H'=>D.nx (σ.set i (some (.ref s2.heap.objs.size))) H') (RR:=fun acc C=>compPost (model X.prog X.w) X.A X.xe (some (assign (.Name y pos') X.env)) (fun _ s'=>SP X pins D .next s') acc C) B tk hc hin q2 q3 I2 TT st2 f2 (q _ (I2.hok.fresh (Nat.le_refl _))) fun C H' s' m I' fC hn qd=>?_
 show wpAny _ X.A (assign (.Name y pos') X.env (.ref s2.heap.objs.size)) _ _ _;refine wpAny_assign_Name (uv I' hN hI (.inl hy) (v:=.ref s2.heap.objs.size) rfl (fun s3 I3 aZ=>?_) (.inr hy));obtain ⟨a,sb,ha⟩:=aZ;have hCa:C≠a:=by
  rcases ha with z | z
  ·rw [z];exact fC.2.1
  ·exact fun w=>fC.2.2.2.2.1 y a z w.symm
 refine ⟨m,hn.sameBut sb hCa,fun h' sb'=>⟨_,H',?_,qd⟩⟩;exact I3.turned (t':=s3.toks) (fun b o hb e=>(sb'.2 b hb).trans e) fC.1 fC.2.1 fC.2.2.2.1 fC.2.2.2.2.1 fC.2.2.2.2.2
end
def Its (z:Str):It:=⟨fun i _=>i < z.cps.size,fun i H x H'=>H'=H∧∃c,z.cps[i]?=some c∧x=.str ⟨#[c]⟩,fun i _=>z.cps.size≤i⟩
theorem Pr {P:Program} {w:World} {K:PySem.W.Frag} {tg:Expr} {z:Str} {t:Tok} {ty:String} {it:Addr} (hty:ty="str_ascii_iterator"∨ty="str_iterator") (hgo:∀i u,letOwnedTupleGo tg i u=pure ()):
  Turn P w K tg (Its z) [it] it (fun i h=>h.IsStrIter it ty z t i) where
 mem:=by simp
 obj:=fun i h st b hb=>by
  have e:b=it:=by simpa using hb
  subst e;obtain ⟨o,e,c,d⟩:=st;exact ⟨o,e,fun v q=>by rw [d] at q;cases q⟩
 keep:=fun i h h' st k=>let ⟨o,ho,r⟩:=st;⟨o,k it (by simp) o ho,r⟩
 item:=by
  intro X hP hw hK hc i pins s σ H E I hf st hg;subst hP hw hK;obtain ⟨f0,f1,f2,f3,f4,f5⟩:=hf it (by simp);have hi:i < z.cps.size:=hg;have W:Walks X.prog X.w X.A it [it] [it] z.cps.size (SignAt z) (fun i h=>h.IsStrIter it ty z t i):=by
   rcases hty with rfl | rfl
   ·exact Walks.strAscii (I.ok.hd hc) it z t
   ·exact Walks.strWide (I.ok.hd hc) it z t
  refine W.item i s _ _ hi st fun v h' tk hv st' kk=>?_
  obtain ⟨c,u,hc',rfl⟩:=hv;have I1:Inv X pins σ H { s with heap:=h',toks:=tk }:=I.turned (fun b o hb e=>kk b o (by simpa using hb) e) f0 f1 f3 f4 f5;refine ⟨_,rfl,?_⟩;rw [hgo];exact wpAny_pure ⟨.str ⟨#[c]⟩,H,I1,⟨u,rfl⟩,⟨rfl,c,hc',rfl⟩,st',fun b hb=>(hf b hb).1⟩
 done:=by
  intro X hP hw hK hc i pins s σ H E I hf st hg;subst hP hw hK;obtain ⟨f0,f1,f2,f3,f4,f5⟩:=hf it (by simp);have hi:z.cps.size≤i:=hg;rcases hty with rfl | rfl
  ·exact wpAny_pyNext_ascii_end (I.ok.hd hc) st (by simpa using hi) fun h' eb=>⟨rfl,I.turned (t':=s.toks) (fun b o hb e=>eb b o hb e) f0 f1 f3 f4 f5⟩
  ·exact wpAny_pyNext_wide_end (I.ok.hd hc) st (by simpa using hi) fun h' eb=>⟨rfl,I.turned (t':=s.toks) (fun b o hb e=>eb b o hb e) f0 f1 f3 f4 f5⟩
 self:=fun _ _ _ _ _ st h=>by
  rcases hty with rfl | rfl
  ·exact wpAny_pyIter_striter_ascii st h
  ·exact wpAny_pyIter_striter_wide st h
section
variable {X:Cx} {tg:Expr}
def abp (tl:TE):TI:=fun σ H R=>tl σ H fun x H1=>∃z,x=.str z∧R (Its z) H1
theorem Xg {l:Expr} {tl:TE} (hl:PE X l tl) (hgo:∀i u,letOwnedTupleGo tg i u=pure ():=by intro _ _;rfl):PI X tg l (abp tl):=by
 intro pins s σ H R I h;refine cX (hl pins s σ H _ I h) fun v s1 aZ=>?_
 obtain ⟨x,H1,I1,r1,q1⟩:=aZ;obtain ⟨z,e,q⟩:=q1;subst e;obtain ⟨t,rfl⟩:=r1;have fin:∀(o:Obj) (ty:String),(ty="str_ascii_iterator"∨ty="str_iterator")→Heap.IsStrIter (s1.heap.push o) s1.heap.objs.size ty z t 0→PIE X pins σ tg R (.ref s1.heap.objs.size) { s1 with heap:=s1.heap.push o }:=fun o ty hty st=>by
  refine ⟨s1.heap.objs.size,[s1.heap.objs.size],_,_,H1,rfl,I1.kept (t':=s1.toks) fun b o e=>Heap.get?_push_of_some _ e,Pr hty hgo,st,fun b hb=>?_,q⟩;have e:b=s1.heap.objs.size:=by simpa using hb
  subst e;exact I1.Av (Nat.le_refl _) (I1.hok.fresh (Nat.le_refl _))
 cases ha:z.cps.all (· < 128)
 ·exact wpAny_pyIter_wide ha (fin _ _ (.inr rfl) ⟨_,Heap.get?_push_size _ rfl,rfl,rfl⟩)
 ·exact wpAny_pyIter_ascii ha (fin _ _ (.inl rfl) ⟨_,Heap.get?_push_size _ rfl,rfl,rfl⟩)
theorem Mz:g8 X (compareOp .LtE) (fun x y H Q=>∃i j,x=.str i∧y=.str j∧Q (.bl (!(decide (j.cps.toList < i.cps.toList)))) H):=by
 intro pins s σ H x y v u Q I rx ry h;obtain ⟨i,j,rfl,rfl,q⟩:=h;obtain ⟨t,rfl⟩:=rx;obtain ⟨t',rfl⟩:=ry;exact PySem.P.le_str (bR I q rfl)
theorem mW:∀{ys:List Str} {us:List Value},Vals (ys.map V.str) us→StrsAre us ys
 | [],_,h=>by cases h;exact .nil
 | y::ys,_,h=>by
  cases h with
  | cons r rr=>
   obtain ⟨t,rfl⟩:=r;exact .cons y t (mW rr)
theorem TY:VB X "str.join" (fun x xs H Q=>∃z p ys,x=.str z∧xs=[.ref p]∧di X.K H p (ys.map V.str)∧(ys.map (·.length)).sum + ys.length * z.length≤16777216∧Q (.str (Txt.join z ys)) H):=by
 intro pins s σ H x xs v us Q I rx r h;obtain ⟨z,p,ys,rfl,rfl,hp,hz,q⟩:=h;obtain ⟨t,rfl⟩:=rx;obtain ⟨u,rfl,ru⟩:=vals1 r;cases ru;obtain ⟨its,rv,pl,_⟩:=I.list hp;exact join_list pl.isList (by simpa using mW rv) hz fun t' k=>⟨.str _,H,I.tok _,⟨_,rfl⟩,q⟩
end
section
variable {X:Cx}
theorem part_of {v:Value} {o:Option Int} (h:IsPart v o):∃l:Option (Int×Tok),v=partValue l∧l.map (·.1)=o:=by
 cases h with
 | none=>exact ⟨none,rfl,rfl⟩
 | int i t=>exact ⟨some (i,t),rfl,rfl⟩
theorem Xh:Tq X (fun x lo hi H Q=>∃z,x=.str z∧z.length≤sizeLine∧Q (.str (Txt.slice z lo hi)) H):=by
 intro pins s σ H x v vl vu lo hi sl Q I rx hs pl pu h;obtain ⟨z,rfl,hz,q⟩:=h;obtain ⟨t,rfl⟩:=rx;obtain ⟨l,rfl,rfl⟩:=part_of pl;obtain ⟨u,rfl,rfl⟩:=part_of pu;refine ⟨"str",_,F.slot_str_getitem.lookup,typeIs_str s z t,?_⟩;exact wpAny_getItem_str_slice (l:=l) (u:=u) (st:=none) hs rfl (post_val_or_str ⟨Nat.le_trans (Txt.slice_le z _ _) hz,fun t' k=>⟨.str _,H,I.tok _,⟨t',rfl⟩,q⟩⟩)
theorem Ei:∀{bs:List Bool} {us:List Value},Vals (bs.map V.bl) us→us=bs.map Value.bool
 | [],_,h=>by cases h;rfl
 | b::bs,_,h=>by
  cases h with
  | cons r rr=>
   cases r;rw [Ei rr];rfl
theorem Pu (hc:X.calm=true):cY X (.builtin "all") (fun xs H Q=>∃(p:Addr) (bs:List Bool),xs=[.ref p]∧di X.K H p (bs.map V.bl)∧Q (.bl (bs.all id)) H):=by
 intro pins s σ H xs us Q I r h;obtain ⟨p,bs,rfl,hp,q⟩:=h;obtain ⟨u,rfl,ru⟩:=vals1 r;cases ru;obtain ⟨its,rv,pl,_⟩:=I.list hp;have hl:=pl.isList;have e0:=Ei rv;subst e0;have hlt:p < s.heap.objs.size:=by obtain ⟨_,e,_⟩:=hl;exact Heap.lt_size e
 refine call_all_walk (wpAny_pyIter_list hl ?_);refine ⟨s.heap.objs.size,[s.heap.objs.size,p],[s.heap.objs.size],(bs.map Value.bool).toArray.size,_,_,fun i=>(bs[i]?).getD true,rfl,Walks.list (A:=X.A.in1) (I.ok.hd hc) _ p (Nat.ne_of_lt hlt) (bs.map Value.bool).toArray,
  ⟨⟨_,Heap.get?_push_size _ rfl,rfl,rfl⟩,hl.push _⟩,fun i v s' Q' E' hP hQ=>?_,fun h' tk hk=>?_⟩
 ·have hP':(bs.map Value.bool)[i]?=some v:=by simpa using hP
  rw [List.getElem?_map] at hP';cases e:bs[i]? with
  | none=>rw [e] at hP';cases hP'
  | some b=>
   rw [e] at hP';cases hP';simp only [e,Option.getD_some] at hQ;exact wpAny_truthy_bool hQ
 ·have e:((List.range (bs.map Value.bool).toArray.size).all fun i=>(bs[i]?).getD true)=bs.all id:=by
   have:(bs.map Value.bool).toArray.size=bs.length:=by simp
   rw [this,Bool.eq_iff_iff,List.all_eq_true,List.all_eq_true];constructor
   ·intro h b hb;obtain ⟨i,hi,rfl⟩:=List.getElem_of_mem hb;have:=h i (List.mem_range.mpr hi);simpa [List.getElem?_eq_getElem hi] using this
   ·intro h i hi;have hi':=List.mem_range.mp hi;simp only [List.getElem?_eq_getElem hi',Option.getD_some];exact h _ (List.getElem_mem hi')
  rw [e];refine ⟨.bl _,H,I.kept fun b x e=>hk b x (fun hm=>?_) (Heap.get?_push_of_some _ e),rfl,q⟩;rw [List.mem_singleton.mp hm] at e;exact Nat.lt_irrefl _ (Heap.lt_size e)
end
mutual
def RD (K:PySem.W.Frag) (H:Hp):PyData→V→Prop
 | .none,v=>v=.non
 | .bool b,v=>v=.bl b
 | .int i,v=>v=.int i
 | .str x,v=>v=.str x
 | .tuple ds,v=>∃a vs,v=.ref a∧jD K H a vs∧Ia K H ds vs
 | .list ds,v=>∃a vs,v=.ref a∧di K H a vs∧Ia K H ds vs
 | .dict _,_=>False
def Ia (K:PySem.W.Frag) (H:Hp):List PyData→List V→Prop
 | [],vs=>vs=[]
 | d::ds,vs=>∃v r,vs=v::r∧RD K H d v∧Ia K H ds r
end
theorem jD.same {K:PySem.W.Frag} {H H':Hp} {a:Addr} {xs:List V} (e:∀b ys,H b=some (.tup ys)→H' b=some (.tup ys)) (ef:∀b o u,H b=some (.DG o u)→H' b=some (.DG o u)) (h:jD K H a xs):jD K H' a xs:=by
 rcases h with (h | ⟨o,h⟩) | h
 ·exact .inl (.inl (e _ _ h))
 ·exact .inl (.inr ⟨o,ef _ _ _ h⟩)
 ·exact .inr h
mutual
theorem RD.same {K:PySem.W.Frag} {H H':Hp} (e:bu H H'):∀{d:PyData} {v:V},RD K H d v→RD K H' d v
 | .none,_,h=>h
 | .bool _,_,h=>h
 | .int _,_,h=>h
 | .str _,_,h=>h
 | .tuple ds,v,h=>by
  obtain ⟨a,vs,e1,q,r⟩:=h;exact ⟨a,vs,e1,q.same (fun b ys z=>e _ _ z) (fun b o u z=>e _ _ z),Ia.same e r⟩
 | .list ds,v,h=>by
  obtain ⟨a,vs,e1,q,r⟩:=h;exact ⟨a,vs,e1,e.seq q,Ia.same e r⟩
theorem Ia.same {K:PySem.W.Frag} {H H':Hp} (e:bu H H'):∀{ds:List PyData} {vs:List V},Ia K H ds vs→Ia K H' ds vs
 | [],_,h=>h
 | d::ds,vs,h=>by
  obtain ⟨v,r,e1,q,t⟩:=h;exact ⟨v,r,e1,RD.same e q,Ia.same e t⟩
end
section
variable {X:Cx} {pins:List (Addr×Obj)} {σ:St} {H:Hp} {s:Shared}
mutual
theorem RD.reads (I:Inv X pins σ H s):∀{d:PyData} {v:V} {u:Value},RD X.K H d v→RelV v u→∃as,Reads s.heap u d as
 | .none,_,_,h,r=>by
  cases (show _=V.non from h);cases r;exact ⟨_,.none⟩
 | .bool b,_,_,h,r=>by
  cases (show _=V.bl b from h);cases r;exact ⟨_,.bool b⟩
 | .int i,_,_,h,r=>by
  cases (show _=V.int i from h);obtain ⟨t,rfl⟩:=r;exact ⟨_,.int i t⟩
 | .str x,_,_,h,r=>by
  cases (show _=V.str x from h);obtain ⟨t,rfl⟩:=r;exact ⟨_,.str x t⟩
 | .tuple ds,v,u,h,r=>by
  obtain ⟨a,vs,e1,q,t⟩:=h;subst e1;cases r;obtain ⟨its,rv,⟨o,e,c,n,d⟩,_⟩:=I.tuple q;obtain ⟨as,R⟩:=Ia.reads I t rv;exact ⟨_,.tuple e c d (by simpa using R)⟩
 | .list ds,v,u,h,r=>by
  obtain ⟨a,vs,e1,q,t⟩:=h;subst e1;cases r;obtain ⟨its,rv,⟨o,n,e,c,_,d⟩,_⟩:=I.list q;obtain ⟨as,R⟩:=Ia.reads I t rv;exact ⟨_,.list e c d (by simpa using R)⟩
theorem Ia.reads (I:Inv X pins σ H s):∀{ds:List PyData} {vs:List V} {us:List Value},Ia X.K H ds vs→Vals vs us→∃as,ReadsAll s.heap us ds as
 | [],_,_,h,r=>by
  cases (show _=[] from h);cases r;exact ⟨_,.nil⟩
 | d::ds,vs,us,h,r=>by
  obtain ⟨v,rr,e1,q,t⟩:=h;subst e1;cases r with
  | cons r1 r2=>
   obtain ⟨as,R⟩:=RD.reads I q r1;obtain ⟨bs,R2⟩:=Ia.reads I t r2;exact ⟨_,.cons R R2⟩
end
end
section
variable {X:Cx}
end
def Px (Hi:Scope) (N0 NT NF:List Str) (js:List Nat) (scope:Scope):Bool:=
 scope.kind==.function&&scope.names.all (fun y=>!(y.2==.local) || scope.names.lookup y.1==some .local)&&scope.names.all (fun y=>!(y.2==.cell))&&
  scope.names.all (fun y=>!(y.2==.free) || (Hi.names.lookup y.1==some .cell || Hi.names.lookup y.1==some .free))&&js.length==NF.length&&
  (js.zip NF).all (fun p=>N0[p.1]?==some p.2&&scope.names.lookup p.2==some .free)&&NT.all (fun x=>scope.names.lookup x==some .local)&&decide (NT++NF).Nodup
theorem wX.ok {X:Cx} {Hi:Scope} {N0 NT NF:List Str} {js:List Nat} {scope:Scope} (h:Px Hi N0 NT NF js scope=true) (ho:X.env.scope=Hi) (hN:X.N=N0):lZ X NT NF js scope:=by
 unfold Px at h;simp only [Bool.and_eq_true] at h;obtain ⟨⟨⟨⟨⟨⟨⟨h1,h2⟩,h3⟩,h4⟩,h5⟩,h6⟩,h7⟩,h8⟩:=h;refine ⟨eq_of_beq h1,fun y hy e=>?_,fun y hy e=>?_,fun y hy e=>?_,by simpa using h5,fun k j x ej ex=>?_,fun x hx=>?_,of_decide_eq_true h8⟩
 ·have:=List.all_eq_true.mp h2 y hy;rw [e] at this;simpa using this
 ·have:=List.all_eq_true.mp h3 y hy;rw [e] at this;simp at this
 ·have:=List.all_eq_true.mp h4 y hy;rw [e] at this;rw [ho];simpa using this
 ·have hm:(j,x)∈js.zip NF:=by
   have:(js.zip NF)[k]?=some (j,x):=by
    rw [List.getElem?_zip_eq_some];exact ⟨ej,ex⟩
   exact List.mem_of_getElem? this
  have:=List.all_eq_true.mp h6 _ hm;simp only [Bool.and_eq_true] at this;rw [hN];exact ⟨eq_of_beq this.1,eq_of_beq this.2⟩
 ·exact eq_of_beq (List.all_eq_true.mp h7 x hx)
structure j7 (P:Program) (w:World) (K:PySem.W.Frag) (mg:Str→Option Value) (base:Heap) (x:Str) (k:Nat) (ps:List Str) (sp:Sp):Prop where
 ex:∃(f:Addr) (fd:FuncData),mg x=some (.ref f)∧PySem.W.keepIn K (.ref f)=true∧Binds K fd ps []∧cZ P w K mg base oh k f fd ps sp
section
variable {X:Cx} {x:Str} {k:Nat} {ps:List Str} {sp:Sp} {p pos:Pos} {e:Expr} {es:List Expr} {t:TA}
theorem ZD (F:j7 X.prog X.w X.K X.mg X.base x k ps sp) (hr:iz k X.A) (hg:Gl X x) (ha:PA X (e::es) t) (hdb:(x==("__debug__":Str))=false:=by decide)
  (he:starEach (e::es) X.env=(false,eval e X.env)::starEach es X.env:=by rfl) (hpl:(backTo pos (starEach es X.env)).any (·.1)=false:=by rfl):
  PE X (.Call (.Name x p) (e::es) [] pos) (O1 sp [] E0 t):=by
 obtain ⟨f,fd,h1,h2,h3,h4⟩:=F.ex;exact Th h4 hr hg h1 h2 h3 .nil Zz ha hdb he hpl
theorem Ej:cY X (.builtin "isinstance") (fun xs H Q=>∃x n t b,xs=[x,.ty n]∧oG X.K H x t∧PySem.W.kitOne X.K t (.type n)=some b∧Q (.bl b) H):=by
 intro pins s σ H xs us Q I r h;obtain ⟨x,n,t,b,rfl,ty,e,q⟩:=h;obtain ⟨u,u2,rfl,r1,r2⟩:=vals2 r;cases r2;exact Mi I r1 ty e fun tk=>⟨.bl b,H,I.tok tk,rfl,q⟩
end
structure Fx (K:PySem.W.Frag) (T:ou) (J:It) (n:Nat) (vs:Nat→List V) (G:Hp→Prop):Prop where
 go:∀i H,i < n→G H→J.go i H
 Vx:∀i H x H',i < n→G H→J.Vx i H x H'→H'=H∧VH K T x H (vs i)
 stop:∀H,G H→J.stop n H
section
variable {K:PySem.W.Frag} {T:ou} {J:It} {n:Nat} {vs:Nat→List V} {G:Hp→Prop} {ts:TT} {te:TE} {fs:St} {H1:Hp} {D:Addr} {done:Hp→Prop}
end
theorem T3 {n m:Nat} (h:n≤m) (hm:m≤16777216:=by decide):n≤sizeLine:=by rw [sizeLine_eq];omega
section
variable {K:PySem.W.Frag} {T:ou} {J:It} {n:Nat} {vs:Nat→List V} {G:Hp→Prop} {te:TE} {fs:St} {H1:Hp} {D:Addr} {done:Hp→Prop}
end
section
variable {X:Cx}
theorem VB.r {id:String} {r:V→List V→Hp→VK→Prop} (h:VB X id r):Yx X id r:=h
end
def Ext (p:Addr) (H H':Hp):Prop:=∀b o,H b=some o→b≠p→H' b=some o
theorem Ext.refl (p:Addr) (H:Hp):Ext p H H:=fun _ _ h _=>h
theorem Ext.trans {p:Addr} {H H1 H2:Hp} (a:Ext p H H1) (b:Ext p H1 H2):Ext p H H2:=fun c o h hc=>b c o (a c o h hc) hc
theorem bu.ext {p:Addr} {H H':Hp} (s:bu H H'):Ext p H H':=fun b o h _=>s b o h
theorem Ext.upd {p:Addr} {H:Hp} {o:HO}:Ext p H (upd H p o):=fun b u h hb=>by rw [aV hb];exact h
theorem bu.upd {p:Addr} {H:Hp} {o:HO} (h:H p=none):bu H (L2.upd H p o):=fun b u e=>by rw [aV (cJ e h)];exact e
def Xi (D:Addr) (tk tv:TE):TM:=fun σ H Q=>tk σ H fun y H1=>tv σ H1 fun z H2=>∃kvs k,H2 D=some (.dK kvs)∧y=kV k∧kvs.length < sizeLine∧Q (upd H2 D (.dK (putK kvs k z)))
theorem Xj {X:Cx} {D:Addr} {kx vx:Expr} {tk tv:TE} (hu:X.A.units + 1 < cLine) (hk:PE X kx tk) (hv:PE X vx tv):PM X (do
      let kv ←eval kx X.env
      let vv ←holding [kv] (eval vx X.env)
      standAt { kx.pos with endLine:=vx.pos.endLine,endCol:=vx.pos.endCol }
      holding [kv,vv] (dictSet D kv vv)) (Xi D tk tv):=by
 intro pins s σ H Q I h;refine wpAny_bind (cX (hk pins s σ H _ I h) fun kv s1 aZ=>?_);obtain ⟨y,H1,I1,r1,q1⟩:=aZ;refine wpAny_bind (wpAny_holding (cX (hv pins s1 σ H1 _ I1 q1) fun vv s2 aZ=>?_));obtain ⟨z,H2,I2,r2,kvs,k,hD,ey,hl,q2⟩:=aZ;subst ey;refine wpAny_bind (wpAny_standAt (wpAny_holding ?_));obtain ⟨z1,hd,vs,rel,dd⟩:=J0 I2.hok hD;have hz:vs.length≤sizeLine:=by rw [←rel.length];exact z1
 have hl2:(putK kvs k z).length≤sizeLine:=by have:=kj kvs k z;omega
 refine wpAny_dictSet_pairs (hsz:=hz) (wM r1) dd fun h' Sw hs=>⟨_,?_,q2⟩
 have he:∃q,h'.get? D=some q:=let ⟨q,_,_,hq,_⟩:=Sw;⟨q,hq⟩
 exact mU I2 (by rw [hD];exact True.intro) hs he (Bh hl2 hd (rel.put k r2) Sw)
section
variable {X:Cx} {NT NF:List Str} {js:List Nat} {elt kx vx tg iter e:Expr} {ifs:List Expr} {T:ou} {wi:TI} {ts:Bk→TT} {te tk' tv:Bk→TE} {scope:Scope} {pos:Pos}
def tDC (K:PySem.W.Frag) (wi:TI) (T:ou) (ts:Bk→TT) (tk' tv:Bk→TE) (js:List Nat):TE:=fun σ H Q=>wi σ H fun J H1=>∀D,H1 D=none→∀b,Eh K T (ts b) (Xi D (tk' b) (tv b)) (frees js σ) J (upd H1 D (.dK [])) (Q (.ref D))
theorem Xk {pins:List (Addr×Obj)} {σ:St} {s2:Shared} {H2:Hp} {cl:List (Str×Addr)} {it:Addr} {fp:List Addr} {tn:Nat→Heap→Prop} {J:It} {Q:Hp→Prop} {RR:Value→Addr→Result→Shared→Prop} {E:Value→Shared→Prop}
  (B:lZ X NT NF js scope) (tk:sG tg NT T) (hc:X.calm=true) (hu:X.A.units + 1 < cLine)
  (hin:∀b,Hh (X.bk (NT++NF) scope b) ifs (ts b)∧PE (X.bk (NT++NF) scope b) kx (tk' b)∧PE (X.bk (NT++NF) scope b) vx (tv b))
  (q2:∀n c,cl.lookup n=some c→X.env.cells.lookup n=some c) (q3:∀y∈scope.names,y.2=.free→∃c,cl.lookup y.1=some c)
  (I2:Inv X pins σ H2 s2) (TT:Turn X.prog X.w X.K tg J fp it tn) (st2:tn 0 s2.heap) (f2:∀b∈fp,j6 X pins H2 b)
  (q:∀b,Eh X.K T (ts b) (Xi s2.heap.objs.size (tk' b) (tv b)) (frees js σ) J (upd H2 s2.heap.objs.size (.dK [])) Q)
  (hR:∀C H' s' m,Inv X pins σ H' s'→j6 X pins H' C→s'.heap.Ns C m→Q H'→RR (.ref s2.heap.objs.size) C (.ok .next) s'):
  wpAny (model X.prog X.w) X.A (newDict) (fun acc s₃=>wpAny (model X.prog X.w) X.A (newFunctionEnv scope X.env.globals cl [] X.env.qual none .none (some X.env)) (fun cenv s₄=>
   codeAny (model X.prog X.w) X.A (.compStart (.DictComp kx vx [⟨tg,iter,ifs,0⟩] scope pos) 0 (.ref it) acc { cenv with scope:=relabel scope X.env }) (RR acc cenv.locals) s₄) E s₃) E s2:=by
 refine wpAny_newObj_type ?_;have hD:H2 s2.heap.objs.size=none:=I2.hok.fresh (Nat.le_refl _);have I3:Inv X pins σ (upd H2 s2.heap.objs.size (.dK [])) { s2 with heap:=s2.heap.push { cls:=.type "dict",dict:=none,data:=.dict #[] } }:=
  I2.laid (t':=s2.toks) (fun b o e=>Heap.get?_push_of_some _ e) (Nat.le_refl _) (wQ s2.heap I2.big)
 have hsz:(s2.heap.push { cls:=.type "dict",dict:=none,data:=.dict #[] }).objs.size=s2.heap.objs.size + 1:=Heap.size_push ..;refine wpAny_newFunctionEnv B.cell (by intro y hy;simp at hy) (fun h₁ hns₁ hsb₁=>?_) B.kind;have Sx:∀b∈fp,b < s2.heap.objs.size:=fun b hb=>by
  obtain ⟨o,e,_⟩:=TT.obj 0 _ st2 b hb;exact Heap.lt_size e
 have f3:∀b∈fp,j6 X pins (upd H2 s2.heap.objs.size (.dK [])) b:=fun b hb=>⟨by rw [aV (Nat.ne_of_lt (Sx b hb))];exact (f2 b hb).1,(f2 b hb).2⟩
 have keep:∀b o,(s2.heap.push { cls:=.type "dict",dict:=none,data:=.dict #[] }).get? b=some o→h₁.get? b=some o:=fun b o e=>
  hsb₁.extBut b o (Nat.ne_of_lt (Heap.lt_size e)) (Heap.get?_push_of_some _ e)
 have VJ:∀b∈fp,b < (s2.heap.push { cls:=.type "dict",dict:=none,data:=.dict #[] }).objs.size:=fun b hb=>by have:=Sx b hb;rw [hsz];exact Nat.lt_succ_of_lt this
 have I4:=I3.blk (s1:={ s2 with heap:=h₁,toks:=s2.toks + ([]:List (Str×Value)).length }) B q2 q3 f3 VJ hns₁ keep rfl I2.bare;have VL:tn 0 h₁:=TT.keep 0 _ _ st2 fun b _ o e=>keep b o (Heap.get?_push_of_some _ e)
 obtain ⟨i1,i2,i3⟩:=hin ⟨cl,(s2.heap.push { cls:=.type "dict",dict:=none,data:=.dict #[] }).objs.size,{ s2 with heap:=s2.heap.push { cls:=.type "dict",dict:=none,data:=.dict #[] } },upd H2 s2.heap.objs.size (.dK []),fp⟩;have loop:codeAny (model X.prog X.w) X.A (.compLoop (.DictComp kx vx [⟨tg,iter,ifs,0⟩] scope pos) 0 (.ref it) (.ref s2.heap.objs.size) (compEnvC scope cl (s2.heap.push { cls:=.type "dict",dict:=none,data:=.dict #[] }).objs.size X.env))
   (RR (.ref s2.heap.objs.size) (s2.heap.push { cls:=.type "dict",dict:=none,data:=.dict #[] }).objs.size) { s2 with heap:=h₁,toks:=s2.toks + ([]:List (Str×Value)).length }:=by
  refine wW (X:=X.blk (NT++NF) scope cl (s2.heap.push { cls:=.type "dict",dict:=none,data:=.dict #[] }).objs.size { s2 with heap:=s2.heap.push { cls:=.type "dict",dict:=none,data:=.dict #[] } } (upd H2 s2.heap.objs.size (.dK [])) fp)
   (T:=T) (fs:=frees js σ) (done:=Q) rfl (H9 kx vx tg iter ifs scope pos _ _ _) rfl rfl rfl tk rfl B.nd hc (fun x hx=>lookup_relabel_local (B.tg x hx)) i1 (Xj hu i2 i3) TT (fun b hb=>?_) I4 VL (q _) fun H' s' σ' J' qd=>?_
  ·exact ⟨(f3 b hb).1,Nat.ne_of_lt (VJ b hb),fun hb2=>by
    rcases List.mem_cons.mp (I3.ur b hb2) with z | z
    ·exact (f3 b hb).2.1 z
    ·exact (f3 b hb).2.2.1 z,.inl hb,fun x c e=>(f3 b hb).2.2.2.2.1 x c (q2 x c e),fun p hp=>(nomatch (show p∈([]:List (Addr×Obj)) from hp))⟩
  ·obtain ⟨m,hn,_⟩:=J'.loc;exact hR _ H' s' m (I3.Ph f3 J') (I3.Av (Nat.le_refl _) J'.free) hn qd
 exact codeAny_compStart_dict loop (TT.self _ 0 _ _ _ VL loop)
theorem Py {i:Nat} {y:Str} {pos' spos:Pos} (B:lZ X NT NF js scope) (tk:sG tg NT T) (hc:X.calm=true) (hu:X.A.units + 1 < cLine) (hi:PI X tg iter wi)
  (hin:∀b,Hh (X.bk (NT++NF) scope b) ifs (ts b)∧PE (X.bk (NT++NF) scope b) kx (tk' b)∧PE (X.bk (NT++NF) scope b) vx (tv b))
  (hsw:swapsWith (.DictComp kx vx [⟨tg,iter,ifs,0⟩] scope pos) (some (.Name y pos')) spos.line X.env=pure true)
  (hN:X.N.Nodup) (hI:X.N[i]?=some y) (hy:X.env.scope.names.lookup y=some .local)
  (hs:∀x,foldedSetIterable iter X.env x=pure x:=by intro _;rfl):PS X (.Assign [.Name y pos'] (.DictComp kx vx [⟨tg,iter,ifs,0⟩] scope pos) spos) (LC (tDC X.K wi T ts tk' tv js) (u9 i)):=by
 intro pins s σ H D I h;obtain ⟨cl,hclos,q2,q3⟩:=mV (env:=X.env) (scope:=scope) fun y hy e=>I.ok.has y.1 (B.free y hy e)
 rw [exec_Assign_Name_used _ _ _ _ hsw];refine wpAny_bind (wpAny_standAt (wpAny_bind ?_));show wpAny _ X.A (do let _ ←comprehension (.DictComp kx vx [⟨tg,iter,ifs,0⟩] scope pos) scope X.env _ (newDict) false (eval iter X.env) (some (assign (.Name y pos') X.env))) _ _ s;refine wpAny_bind (wpAny_mono (wpAny_comprehension_free (use:=some (assign (.Name y pos') X.env)) (Q:=fun _ s'=>SP X pins D .next s') rfl hs hclos B.kind B.names
  (cX (hi pins s σ H _ I h) fun v s1 h1=>cX h1 fun itv s2 ⟨it,fp,tn,J,H2,e,I2,TT,st2,f2,q⟩=>?_)) (fun _ s' hq=>wpAny_pure (wpAny_pure hq)) fun _ _ e=>e)
 subst e;refine Xk (hu:=hu) (Q:=fun H'=>D.nx (σ.set i (some (.ref s2.heap.objs.size))) H') (RR:=fun acc C=>compPost (model X.prog X.w) X.A X.xe (some (assign (.Name y pos') X.env)) (fun _ s'=>SP X pins D .next s') acc C) B tk hc (hin:=hin) q2 q3 I2 TT st2 f2 (q _ (I2.hok.fresh (Nat.le_refl _))) fun C H' s' m I' fC hn qd=>?_
 show wpAny _ X.A (assign (.Name y pos') X.env (.ref s2.heap.objs.size)) _ _ _;refine wpAny_assign_Name (uv I' hN hI (.inl hy) (v:=.ref s2.heap.objs.size) rfl (fun s3 I3 aZ=>?_) (.inr hy));obtain ⟨a,sb,ha⟩:=aZ;have hCa:C≠a:=by
  rcases ha with z | z
  ·rw [z];exact fC.2.1
  ·exact fun w=>fC.2.2.2.2.1 y a z w.symm
 refine ⟨m,hn.sameBut sb hCa,fun h' sb'=>⟨_,H',?_,qd⟩⟩;exact I3.turned (t':=s3.toks) (fun b o hb e=>(sb'.2 b hb).trans e) fC.1 fC.2.1 fC.2.2.2.1 fC.2.2.2.2.1 fC.2.2.2.2.2
end
section
variable {X:Cx}
theorem T4 {K:PySem.W.Frag} {t:Value} {c d:Value} {p q:Bool} (e1:PySem.W.kitOne K t c=some p) (e2:PySem.W.kitOne K t d=some q):PySem.W.kitAny K t [c,d]=some (p || q):=by
 unfold PySem.W.kitAny;rw [e1];cases p with
 | true=>rfl
 | false=>
  unfold PySem.W.kitAny;rw [e2];cases q with
  | true=>rfl
  | false=>rfl
end
structure Fy (K:PySem.W.Frag) (T:ou) (J:It) (n:Nat) (vs:Nat→List V) (G:Hp→Prop):Prop where
 go:∀i H,i < n→G H→J.go i H
 Vx:∀i H x H',i < n→G H→J.Vx i H x H'→bu H H'∧VH K T x H' (vs i)
 stop:∀H,G H→J.stop n H
section
variable {K:PySem.W.Frag} {T:ou} {J:It} {n:Nat} {vs:Nat→List V} {G:Hp→Prop} {ts:TT} {te:TE} {fs:St} {H1:Hp} {D:Addr} {done:Hp→Prop}
end
theorem Inv.sH {X:Cx} {pins:List (Addr×Obj)} {σ:St} {H H':Hp} {s:Shared} {h':Heap} {t':Nat} {ch:List Addr} (I:Inv X pins σ H s) (k:∀b o,b∉ch→s.heap.get? b=some o→h'.get? b=some o) (hf:∀b∈ch,j6 X pins H b)
  (hs:bu H H') (hfr:∀b o,s.heap.get? b=some o→H b=none→H' b=none) (hn:∀b u,H' b=some u→H b=some u∨cB X.prog X.w H' h' b u):Inv X pins σ H' { s with heap:=h',toks:=t' }:=by
 have YK:∀b u,H b=some u→b∉ch:=fun b u e z=>by rw [(hf b z).1] at e;cases e
 refine I.step (g':=s.gens) (d':=s.drawn) (ch:=ch) (fun b hb=>⟨(hf b hb).2.2.2.1,(hf b hb).2.1,(hf b hb).2.2.2.2.1,(hf b hb).2.2.2.2.2⟩) (fun b o _ _ hc e _=>k b o hc e) (fun b o _ _ hc e _=>⟨o.slots,k b o hc e⟩) (fun b o _ e n=>hfr b o e n)
  (fun b o hc e=>⟨o,k b o hc e⟩) (fun _ _ e=>hs _ _ e) (fun _ _ _ e=>hs _ _ e) (fun b ps e=>⟨#[],by rw [hs _ _ e];simp⟩) (fun m hm=>?_) (fun b u e=>?_) I.bare
 ·obtain ⟨o,es,ep,ho,r⟩:=hm;exact ⟨o,es,ep,k _ o (fun z=>(hf _ z).2.1 rfl) ho,r⟩
 ·rcases hn b u e with z | z
  ·refine (I.hok b u z).stay (fun c v hc q=>k c v ?_ q) (fun _ q=>hs _ _ q) fun _ _ q=>hs _ _ q
   rcases hc with y | y
   ·rw [y];exact YK b u z
   ·exact YK c _ y
  ·exact z
def Itz (K:PySem.W.Frag) (a b:Addr):It:=⟨fun i H=>∃xs ys,di K H a xs∧di K H b ys∧i < min xs.length ys.length,
 fun i H v H'=>∃p x y,H p=none∧v=.ref p∧H'=upd H p (.tup [x,y])∧∀xs ys,di K H a xs→di K H b ys→xs[i]?=some x∧ys[i]?=some y,
 fun i H=>∃xs ys,di K H a xs∧di K H b ys∧i=min xs.length ys.length⟩
theorem Pz {P:Program} {w:World} {K:PySem.W.Frag} {es:List Expr} {k:Nat} {ps:Pos} {a b z TI TO i1 i2:Addr} (D:ZipApart z TI TO i1 i2 a b):
  Turn P w K (.Tuple es k ps) (Itz K a b) [z,TI,TO,i1,i2] z (fun i h=>IsZip h z TI TO .none∧IsPair h TI (.ref i1) (.ref i2)∧(∃c d,IsPair h TO c d)∧h.IsListIter i1 a i∧h.IsListIter i2 b i) where
 mem:=by simp
 obj:=fun i h st c hc=>by
  obtain ⟨h1,h2,⟨_,_,h3⟩,⟨o4,e4,_,d4⟩,⟨o5,e5,_,d5⟩⟩:=st;simp only [List.mem_cons,List.not_mem_nil,or_false] at hc;rcases hc with rfl | rfl | rfl | rfl | rfl
  ·exact ⟨_,h1,fun v q=>by cases q⟩
  ·exact ⟨_,h2,fun v q=>by cases q⟩
  ·exact ⟨_,h3,fun v q=>by cases q⟩
  ·exact ⟨_,e4,fun v q=>by rw [d4] at q;cases q⟩
  ·exact ⟨_,e5,fun v q=>by rw [d5] at q;cases q⟩
 keep:=fun i h h' st kk=>by
  obtain ⟨h1,h2,⟨c,d,h3⟩,h4,h5⟩:=st;exact ⟨kk z (by simp) _ h1,kk TI (by simp) _ h2,⟨c,d,kk TO (by simp) _ h3⟩,h4.at fun o e=>kk i1 (by simp) o e,h5.at fun o e=>kk i2 (by simp) o e⟩
 item:=by
  intro X hP hw hK hc i pins s σ H E I hf st hg;subst hP hw hK;obtain ⟨xs,ys,ha,hb,hi⟩:=hg;obtain ⟨its,r1,p1,_⟩:=I.list ha;obtain ⟨its2,r2,p2,_⟩:=I.list hb;have l1:=r1.length;have l2:=r2.length;have W:=WalksT.zip2 (prog:=X.prog) (w:=X.w) (A:=X.A) (I.ok.hd hc) z TI TO i1 i2 a b D its.toArray its2.toArray;obtain ⟨s1,s2,s3,s4,s5⟩:=st;refine W.item i s _ E (by simp;omega) ⟨s1,s2,s3,s4,s5,p1.isList,p2.isList⟩ fun T vals h' tk hv hT ht hm kk=>?_
  obtain ⟨x,y,hx,hy,rfl⟩:=hv;refine ⟨_,rfl,W.go es k ps i T _ _ E hm fun h2 st2 PB=>?_⟩;have gx:xs[i]?=some (xs.getD i .non):=by
   have:i < xs.length:=by omega
   simp [List.getD,this]
  have gy:ys[i]?=some (ys.getD i .non):=by
   have:i < ys.length:=by omega
   simp [List.getD,this]
  obtain ⟨u1,hu1,q1⟩:=r1.get gx;obtain ⟨u2,hu2,q2⟩:=r2.get gy;have ex:u1=x:=by
   have:its[i]?=some x:=by simpa using hx
   rw [hu1] at this;exact Option.some.inj this
  have ey:u2=y:=by
   have:its2[i]?=some y:=by simpa using hy
   rw [hu2] at this;exact Option.some.inj this
  subst ex ey;have wf:∀c,c∈[z,TO,i1,i2]→j6 X pins H c:=fun c hc=>hf c (by simp at hc ⊢;rcases hc with rfl | rfl | rfl | rfl <;> simp)
  have ZF:H T=none:=I.hok.fresh hT;have nT:T∉[z,TO,i1,i2]:=W.apart i T _ hm;have kT:h2.get? T=h'.get? T:=by
   obtain ⟨o,e,_⟩:=id ht;rw [PB T o nT e];exact e.symm
  obtain ⟨oT,eT,cT,nT',dT⟩:=id ht;refine ⟨.ref T,upd H T (.tup [xs.getD i .non,ys.getD i .non]),I.sH (fun c o hc e=>PB c o hc (kk c o hc e)) wf (bu.upd ZF) (fun c o e n=>?_) (fun c u e=>?_),rfl,⟨T,_,_,ZF,rfl,rfl,fun xs' ys' h1 h2=>?_⟩,?_,fun c hc=>?_⟩
  ·rw [aV]
   ·exact n
   ·intro z;subst z;exact absurd (Heap.lt_size e) (Nat.not_lt.mpr hT)
  ·by_cases ZG:c=T
   ·subst ZG;rw [aP] at e;cases e;refine .inr ⟨by show 2≤sizeLine;decide,[u1,u2],.cons q1 (.cons q2 .nil),oT,kT.trans eT,cT,nT',by simpa using dT⟩
   ·rw [aV ZG] at e;exact .inl e
  ·rw [I.rQ h1 ha,I.rQ h2 hb];exact ⟨gx,gy⟩
  ·exact ⟨st2.1,st2.2.1,st2.2.2.1,st2.2.2.2.1,st2.2.2.2.2.1⟩
  ·rw [aV]
   ·exact (hf c hc).1
   ·intro z;subst z;obtain ⟨o,e,_⟩:∃o,s.heap.get? c=some o∧True:=by
     simp only [List.mem_cons,List.not_mem_nil,or_false] at hc;obtain ⟨c1,d1,s3⟩:=s3;obtain ⟨o4,e4,_⟩:=s4;obtain ⟨o5,e5,_⟩:=s5;rcases hc with rfl | rfl | rfl | rfl | rfl
     ·exact ⟨_,s1,trivial⟩
     ·exact ⟨_,s2,trivial⟩
     ·exact ⟨_,s3,trivial⟩
     ·exact ⟨_,e4,trivial⟩
     ·exact ⟨_,e5,trivial⟩
    exact absurd (Heap.lt_size e) (Nat.not_lt.mpr hT)
 done:=by
  intro X hP hw hK hc i pins s σ H E I hf st hg;subst hP hw hK;obtain ⟨xs,ys,ha,hb,hi⟩:=hg;obtain ⟨its,r1,p1,_⟩:=I.list ha;obtain ⟨its2,r2,p2,_⟩:=I.list hb;have l1:=r1.length;have l2:=r2.length;have W:=WalksT.zip2 (prog:=X.prog) (w:=X.w) (A:=X.A) (I.ok.hd hc) z TI TO i1 i2 a b D its.toArray its2.toArray;obtain ⟨s1,s2,s3,s4,s5⟩:=st;have e:i=min its.toArray.size its2.toArray.size:=by simp;omega
  subst e;refine W.done s _ E ⟨s1,s2,s3,s4,s5,p1.isList,p2.isList⟩ fun h' tk kk=>⟨rfl,?_⟩
  have wf:∀c,c∈[z,TO,i1,i2]→j6 X pins H c:=fun c hc=>hf c (by simp at hc ⊢;rcases hc with rfl | rfl | rfl | rfl <;> simp)
  exact I.sH kk wf (bu.refl H) (fun _ _ _ n=>n) fun _ _ e=>.inl e
 self:=fun _ _ _ _ _ st h=>wpAny_pyIter_zip st.1 h
def abr (K:PySem.W.Frag) (t:TA):TI:=fun σ H R=>t σ H fun vs H1=>∃a b xs ys,vs=[.ref a,.ref b]∧di K H1 a xs∧di K H1 b ys∧R (Itz K a b) H1
theorem Xl {X:Cx} {es:List Expr} {k:Nat} {ps:Pos} {x y:Expr} {t:TA} {p pos:Pos} (hg:Gl X "zip") (hm:X.mg "zip"=none) (ha:PA X [x,y] t) (hs:starEach [x,y] X.env=[(false,eval x X.env),(false,eval y X.env)]:=by rfl) (hs2:starEach [y] X.env=[(false,eval y X.env)]:=by rfl):
  PI X (.Tuple es k ps) (.Call (.Name "zip" p) [x,y] [] pos) (abr X.K t):=by
 intro pins s σ H R I h;refine Call_ (mQ I hg hm PyProof.Rows.boot_zip (PyProof.Rows.callWith_type1 (cX (ha pos pins s σ H _ I h) fun us s1 aZ=>?_) (by rw [hs,hs2]) (by rw [hs2];rfl)));obtain ⟨vs,H1,I1,r1,q1⟩:=aZ;obtain ⟨a,b,xs,ys,e,h1,h2,q⟩:=q1;subst e;cases r1 with
 | cons r rr=>
  cases rr with
  | cons r' rr=>
   cases rr;cases r;cases r';obtain ⟨its,v1,p1,_⟩:=I1.list h1;obtain ⟨its2,v2,p2,_⟩:=I1.list h2;have lt1:a < s1.heap.objs.size:=by obtain ⟨_,e,_⟩:=p1.isList;exact Heap.lt_size e
   have Sx:b < s1.heap.objs.size:=by obtain ⟨_,e,_⟩:=p2.isList;exact Heap.lt_size e
   refine call_zip_2 p1.isList p2.isList fun h' g1 g2 g3 g4 g5 hsz kk=>?_
   refine wpAny_pyIter_zip g1 ?_;have I2:Inv X pins σ H1 { s1 with heap:=h' }:=I1.kept (t':=s1.toks) kk;refine ⟨s1.heap.objs.size + 4,[s1.heap.objs.size + 4,s1.heap.objs.size + 2,s1.heap.objs.size + 3,s1.heap.objs.size,s1.heap.objs.size + 1],_,_,H1,rfl,I2,Pz (zipApart_new lt1 Sx),⟨g1,g2,⟨_,_,g3⟩,g4,g5⟩,fun c hc=>?_,q⟩;refine I1.Av ?_ (I1.hok.fresh ?_)
   all_goals
    simp only [List.mem_cons,List.not_mem_nil,or_false] at hc;rcases hc with rfl | rfl | rfl | rfl | rfl <;> omega
theorem Ib {X:Cx} {pins:List (Addr×Obj)} {σ:St} {H:Hp} {s:Shared} {A:Around} {E:Value→Shared→Prop} {Q:Value→Shared→Prop} {b:Bool} {c:Addr} {its:List Value} {x:V} {u t:Value} (I:Inv X pins σ H s) (rx:RelV x u) (ty:oG X.K H x t) (e:PySem.W.kitAny X.K t its=some b)
  (hc:s.heap.IsTuple c its.toArray) (h:∀tk,Q (.bool b) { s with toks:=tk }):wpAny (model X.prog X.w) A (call (.builtin "isinstance") [u,.ref c]) Q E s:=by
 obtain ⟨⟨oc,od,oda,osl⟩,g1,g2,g3,g4⟩:=hc;simp only at g2 g4;subst g2 g4;cases ty with
 | non=>cases (show u=Value.none from rx);exact PySem.W.kia_tup PySem.W.kitx_none I.uh True.intro g1 e (fun z=>nomatch z) h
 | bl y=>cases (show u=Value.bool y from rx);exact PySem.W.kia_tup PySem.W.kitx_bool I.uh True.intro g1 e (fun z=>nomatch z) h
 | int i=>obtain ⟨t,q⟩:=(show ∃t,u=Value.int i t from rx);cases q;exact PySem.W.kia_tup PySem.W.kitx_int I.uh True.intro g1 e (fun z=>nomatch z) h
 | str y=>obtain ⟨t,q⟩:=(show ∃t,u=Value.str y t from rx);cases q;exact PySem.W.kia_tup PySem.W.kitx_str I.uh True.intro g1 e (fun z=>nomatch z) h
 | flt y=>obtain ⟨t,q⟩:=(show ∃t,u=Value.float y t from rx);cases q;exact PySem.W.kia_tup PySem.W.kitx_float I.uh True.intro g1 e (fun z=>nomatch z) h
 | @lst a xs ea=>
  cases (show u=Value.ref a from rx);obtain ⟨_,_,n,_,h1⟩:=(show cB X.prog X.w H s.heap a (.lst xs) from I.hok a _ ea)
  exact PySem.W.kia_tup PySem.W.kitx_list I.uh ⟨_,h1,rfl⟩ g1 e (fun z=>nomatch z) h
 | @DG a ob xs ea=>
  cases (show u=Value.ref a from rx);obtain ⟨_,_,_,n,_,h1⟩:=(show cB X.prog X.w H s.heap a (.DG ob (.lst xs)) from I.hok a _ ea)
  exact PySem.W.kia_tup PySem.W.kitx_list I.uh ⟨_,h1,rfl⟩ g1 e (fun z=>nomatch z) h
 | @tup a xs ea=>
  cases (show u=Value.ref a from rx);obtain ⟨_,_,_,p⟩:=(show cB X.prog X.w H s.heap a (.tup xs) from I.hok a _ ea)
  obtain ⟨o,h1,h2,_⟩:=p;exact PySem.W.kia_tup PySem.W.kitx_tuple I.uh ⟨o,h1,h2⟩ g1 e (fun z=>nomatch z) h
 | @dK a kvs ea=>
  cases (show u=Value.ref a from rx);obtain ⟨_,_,vs,_,p⟩:=(show cB X.prog X.w H s.heap a (.dK kvs) from I.hok a _ ea)
  obtain ⟨o,es,ep,h1,h2,_⟩:=p;exact PySem.W.kia_tup PySem.W.kitx_dict I.uh ⟨o,h1,h2.1⟩ g1 e (fun z=>nomatch z) h
 | @dT a kvs ea=>
  cases (show u=Value.ref a from rx);obtain ⟨_,_,xs,_,o,es,ep,h1,h2,_⟩:=(show cB X.prog X.w H s.heap a (.dT kvs) from I.hok a _ ea)
  exact PySem.W.kia_tup PySem.W.kitx_dict I.uh ⟨o,h1,h2.1⟩ g1 e (fun z=>nomatch z) h
 | @ins a C dx fs ea cl ha hn htk hm=>
  cases (show u=Value.ref a from rx);obtain ⟨mA,O,_⟩:=JV I.hok ea;obtain ⟨od,J,_⟩:=O.look;exact PySem.W.kia_tup (PySem.W.kitx_own (cl.get _) cl.hd ha hn htk hm) I.uh J g1 e (fun z=>nomatch z) h
theorem Bm {X:Cx}:cY X (.builtin "isinstance") (fun xs H Q=>∃x c m n t p q,xs=[x,.ref c]∧H c=some (.tup [.ty m,.ty n])∧oG X.K H x t∧PySem.W.kitOne X.K t (.type m)=some p∧PySem.W.kitOne X.K t (.type n)=some q∧Q (.bl (p || q)) H):=by
 intro pins s σ H xs us Q I r h;obtain ⟨x,c,m,n,t,p,q,rfl,hc,ty,e1,e2,k⟩:=h;obtain ⟨u,u2,rfl,r1,r2⟩:=vals2 r;cases r2;obtain ⟨_,its,rv,ob,g1,g2,g3⟩:=(show cB X.prog X.w H s.heap c (.tup [.ty m,.ty n]) from I.hok c _ hc)
 cases rv with
 | cons a1 rv=>
  cases rv with
  | cons a2 rv=>
   cases rv;cases a1;cases a2;exact Ib I r1 ty (T4 e1 e2) ⟨ob,g1,g2,g3⟩ fun tk=>⟨.bl (p || q),H,I.tok tk,rfl,k⟩
end L2
namespace L2
open PySem PySem.Spec PyProof.Rows PySem.W
section
variable {N:Nat} {lt:Nat→Nat→Bool} {α β:Type}
def cu (N:Nat) (lt:Nat→Nat→Bool):KasT α→(α→Prop)→Prop
 | .ret a,R=>R a
 | .ask i j k,R=>i < N∧j < N∧cu N lt (k (lt i j)) R
theorem cu.mono {R S:α→Prop}:∀{t:KasT α},cu N lt t R→(∀a,R a→S a)→cu N lt t S
 | .ret a,h,f=>f a h
 | .ask i j k,h,f=>⟨h.1,h.2.1,cu.mono h.2.2 f⟩
theorem cu.bind {f:α→KasT β} {R:β→Prop}:∀{t:KasT α},cu N lt t (fun a=>cu N lt (f a) R)→cu N lt (t.bind f) R
 | .ret a,h=>h
 | .ask i j k,h=>⟨h.1,h.2.1,cu.bind h.2.2⟩
theorem cu.wp {cmp:Nat→Nat→(Bool→Shared→Prop)→Shared→Prop} {R:α→Prop} {Q:α→Shared→Prop} {s:Shared} (ask:∀i j,i < N→j < N→∀C:Bool→Shared→Prop,C (lt i j) s→cmp i j C s) (q:∀a,R a→Q a s):∀{t:KasT α},cu N lt t R→t.kasWp cmp Q s
 | .ret a,h=>q a h
 | .ask i j k,h=>ask i j h.1 h.2.1 _ (cu.wp ask q h.2.2)
def KP (N:Nat) (p:Array Nat):Prop:=p.toList.Perm (List.range N)
theorem KP.ix {p:Array Nat} (h:KP N p) (h0:0 < N) (i:Nat):p.getD i 0 < N:=by
 by_cases hi:i < p.size
 ·have:p.getD i 0∈p.toList:=by simp [Array.getD,hi]
  exact List.mem_range.mp (h.mem_iff.mp this)
 ·simpa [Array.getD,hi] using h0
theorem KP.rev {p:Array Nat} (h:KP N p) (i j:Nat):KP N (kas_rev p i j):=((mirror_perm p i j _).toList).trans h
theorem KP.bub {p:Array Nat} (h:KP N p) (i j:Nat):KP N (bubble p i j):=((bubble_perm p i j).toList).trans h
theorem Ie {p:Array Nat} (h:KP N p) (h0:0 < N):∀f n,cu N lt (kas_asc p f n) fun _=>True
 | 0,n=>trivial
 | f + 1,n=>by
  refine ⟨h.ix h0 _,h.ix h0 _,?_⟩;dsimp only;split
  ·exact trivial
  ·exact Ie h h0 f (n + 1)
theorem vQ (h0:0 < N):∀f (p:Array Nat) n q,KP N p→cu N lt (kas_desc f p n q) fun r=>KP N r.1
 | 0,p,n,q,h=>h
 | f + 1,p,n,q,h=>by
  refine ⟨h.ix h0 _,h.ix h0 _,?_⟩;dsimp only;split
  ·split
   ·exact vQ h0 f _ _ _ (h.rev _ _)
   ·exact vQ h0 f _ _ _ h
  ·refine ⟨h.ix h0 _,h.ix h0 _,?_⟩;dsimp only;split
   ·exact h
   ·exact vQ h0 f _ _ _ h
theorem Ek (h0:0 < N) {p:Array Nat} (h:KP N p) (n nrem:Nat):cu N lt (kas_tail3 n nrem p) fun r=>KP N r.2:=
 cu.bind (cu.mono (Ie (h.rev 0 n) h0 _ _) fun _ _=>h.rev 0 n)
theorem vf (h0:0 < N) {p:Array Nat} (h:KP N p) (n nrem:Nat):cu N lt (kas_descPart n nrem p) fun r=>KP N r.2:=by
 refine cu.bind (cu.mono (vQ h0 _ p _ _ h) fun r hr=>?_);split
 ·exact Ek h0 (KP.rev hr _ _) _ _
 ·exact Ek h0 hr _ _
theorem PJ (h0:0 < N) {p:Array Nat} (h:KP N p) (nrem:Nat):cu N lt (kas_count nrem p) fun r=>KP N r.2:=by
 refine cu.bind (cu.mono (Ie h h0 _ _) fun n _=>?_);split
 ·exact h
 ·split
  ·refine ⟨h.ix h0 _,h.ix h0 _,?_⟩;dsimp only;split
   ·exact h
   ·exact vf h0 (h.rev _ _) _ _
  ·exact vf h0 h _ _
theorem wY (h0:0 < N) {p:Array Nat} (h:KP N p) (k:Nat):∀f l r,cu N lt (kas_place p k f l r) fun _=>True
 | 0,l,r=>trivial
 | f + 1,l,r=>by
  unfold kas_place;split
  ·exact trivial
  ·refine ⟨h.ix h0 _,h.ix h0 _,?_⟩;dsimp only;split
   ·exact wY h0 h k f _ _
   ·exact wY h0 h k f _ _
theorem PK (h0:0 < N):∀f (p:Array Nat) k,KP N p→cu N lt (kas_bin f p k) (KP N)
 | 0,p,k,h=>h
 | f + 1,p,k,h=>cu.bind (cu.mono (wY h0 h k _ _ _) fun l _=>PK h0 f _ _ (h.bub _ _))
theorem J3 (h0:0 < N):cu N lt (kas_sort N) (KP N):=by
 refine cu.bind (cu.mono (PJ h0 (p:=List.toArray (List.range N)) (List.Perm.refl _) N) fun r hr=>?_);split
 ·exact PK h0 _ _ _ hr
 ·exact hr
end
def kLt:Key→Key→Bool
 | .inl i,.inl j=>decide (i < j)
 | .inr x,.inr y=>decide (x.cps.toList < y.cps.toList)
 | _,_=>false
def iC:List Key→List Key→Bool
 | a::r,b::t=>if a=b then iC r t else kLt a b
 | _,_=>false
def eX:Key→Bool
 | .inl _=>true
 | .inr _=>false
section
variable {prog:Program} {w:World} {A:Around} {E:Value→Shared→Prop} {s:Shared} {Q:Bool→Shared→Prop}
theorem PL {a b:Key} {u v:Value} {f:Bool} (ra:RelV (kV a) u) (rb:RelV (kV b) v) (ht:eX a=eX b) (h:Q (kLt a b) s):wpAny (model prog w) A (oneLt' f u v) Q E s:=by
 cases a with
 | inl i=>
  cases b with
  | inr y=>cases ht
  | inl j=>
   obtain ⟨t,rfl⟩:=ra;obtain ⟨t',rfl⟩:=rb;cases f with
   | true=>exact oneLt_int h
   | false=>exact kat_one _ _ (lt_int h)
 | inr x=>
  cases b with
  | inl y=>cases ht
  | inr y=>
   obtain ⟨t,rfl⟩:=ra;obtain ⟨t',rfl⟩:=rb;cases f with
   | true=>exact oneLt_str h
   | false=>exact kat_one _ _ (lt_str h)
theorem J4 {a b:Key} (ht:eX a=eX b):O6 (kV a) (kV b)=decide (a=b):=by
 cases a with
 | inl i=>
  cases b with
  | inr y=>cases ht
  | inl j=>show (i==j)=_;rw [Bool.eq_iff_iff];simp
 | inr x=>
  cases b with
  | inl y=>cases ht
  | inr y=>show (x==y)=_;rw [Bool.eq_iff_iff];simp
theorem sI (a:Key):lX (kV a)=true:=by cases a <;> rfl
theorem El:∀{ks js:List Key} {us vs:List Value} {i:Nat},Vals (ks.map kV) us→Vals (js.map kV) vs→ks.map eX=js.map eX→Q (iC ks js) s→KatLex prog w A true false Q (us.zip vs) i s
 | [],[],_,_,_,ra,rb,_,h=>by
  cases ra;cases rb;exact kat_nil h
 | [],_::_,_,_,_,_,_,e,_=>by cases e
 | _::_,[],_,_,_,_,_,e,_=>by cases e
 | a::ks,b::js,us,vs,i,ra,rb,e,h=>by
  cases ra with
  | cons r1 ra=>
   cases rb with
   | cons r2 rb=>
    have e1:eX a=eX b:=(List.cons.inj e).1;have e2:=(List.cons.inj e).2;refine kat_cons (HR r1 r2 (sI a) (sI b) prog w _ _ ?_);rw [J4 e1];unfold iC at h;by_cases hab:a=b
    ·rw [if_pos hab] at h;rw [decide_eq_true hab];exact kat_yes (El ra rb e2 h)
    ·rw [if_neg hab] at h;rw [decide_eq_false hab];exact kat_no (PL r1 r2 e1 h)
end
section
variable {prog:Program} {w:World} {A:Around} {E:Value→Shared→Prop} {s:Shared} {vs:List Value} {κ:SortKind} {lt:Nat→Nat→Bool} {Rl:List Nat→Prop}
def Kp (a:Addr) (h h':Heap):Prop:=∀b o,b≠a→h.get? b=some o→h'.get? b=some o
theorem wZ {a:Addr} {n:Nat} {P:PySem.Fin→Shared→Prop} (ho:s.heap.get? a=some (seqObj "list" vs.toArray n)) (h64:vs.length < 64) (hg:2≤vs.length→cu vs.length lt (kas_sort vs.length) fun p=>KP vs.length p∧Rl p.toList) (hsm:vs.length < 2→Rl (List.range vs.length))
  (hk:2≤vs.length→∀s':Shared,Kp a s.heap s'.heap→∀Q:SortKind→Shared→Prop,Q κ s'→wpAny (model prog w) A (keyKind' vs.toArray) Q (fun _ _=>False) s')
  (hl:2≤vs.length→∀s':Shared,Kp a s.heap s'.heap→∀i j,i < vs.length→j < vs.length→∀C:Bool→Shared→Prop,C (lt i j) s'→kas_ask prog w A κ vs i j C s')
  (h:∀(p:List Nat) (h':Heap) (c:Nat),p.Perm (List.range vs.length)→Rl p→Kp a s.heap h'→h'.get? a=some (seqObj "list" (p.map fun i=>vs.getD i Value.none).toArray c)→P (.done (.ret .none)) { s with heap:=h' }):
  wpAny (model prog w) A (Builtin.«list.sort» ⟨[.ref a],[]⟩) P E s:=by
 have lta:a < s.heap.objs.size:=Heap.lt_size ho;obtain ⟨e1,ho1⟩:∃e1,(s.heap.update a (Obj.mapSeq fun _=>(#[]:Array Value))).get? a=some (seqObj "list" #[] e1):=⟨_,get?_update_seq ho fun _=>#[]⟩
 have sz:vs.length≤sizeLine:=by rw [sizeLine_eq];omega
 have kp:Kp a s.heap (((s.heap.update a (Obj.mapSeq fun _=>(#[]:Array Value))).push (seqObj "tuple" vs.toArray 0)).push (seqObj "list" #[] 0)):=fun b o hb e=>
  Heap.get?_push_of_some _ (Heap.get?_push_of_some _ (((Heap.SameBut.update s.heap a _).2 b hb).trans e))
 have ZJ:(((s.heap.update a (Obj.mapSeq fun _=>(#[]:Array Value))).push (seqObj "tuple" vs.toArray 0)).push (seqObj "list" #[] 0)).get? a=some (seqObj "list" #[] e1):=Heap.get?_push_of_some _ (Heap.get?_push_of_some _ ho1);rw [list_sort_plain];refine wpAny_bind (listItems_at ho rfl (wpAny_bind (listUpdate_at ho rfl (wpAny_bind (seqEpoch_at ho1 rfl (wpAny_bind (wpAny_newTuple (wpAny_bind (wpAny_newList (wpAny_holding ?_) (Nat.zero_le _))) (by show vs.length≤_;exact sz))))) (by rw [List.size_toArray];exact sz) (Nat.zero_le _))));show wpAny (model prog w) A _ P E { s with heap:=((s.heap.update a (Obj.mapSeq fun _=>(#[]:Array Value))).push (seqObj "tuple" vs.toArray 0)).push (seqObj "list" #[] 0) };dsimp only;have fin:∀(p:List Nat),p.Perm (List.range vs.length)→Rl p→∀out:Array Value,out=(p.map fun i=>vs.getD i Value.none).toArray→
   P (.done (.ret .none)) { s with heap:=(((s.heap.update a (Obj.mapSeq fun _=>(#[]:Array Value))).push (seqObj "tuple" vs.toArray 0)).push (seqObj "list" #[] 0)).update a (Obj.mapSeq fun _=>out) }:=fun p hp hrl out eo=>by
  subst eo;refine h p _ _ hp hrl (fun b o hb e=>((Heap.SameBut.update _ a _).2 b hb).trans (kp b o hb e)) (get?_update_seq ZJ _)
 by_cases h2:vs.toArray.size < 2
 ·rw [if_pos h2,if_pos h2];refine wpAny_bind (wpAny_pure ?_);rw [StateT.run_pure];refine wpAny_bind (wpAny_pure ?_);dsimp only;have hz:(pairsOf vs).size≤sizeLine:=by rw [pairsOf_size];exact sz
  refine wpAny_bind (seqEpoch_at ZJ rfl (wpAny_bind (listUpdate_at ZJ rfl ?_ (hsz2:=by rw [Array.size_map];show (pairsOf vs).size≤_;omega))));simp only [bne_self_eq_false,Bool.false_eq_true,if_false];refine wpAny_pure (fin (List.range vs.length) (List.Perm.refl _) (hsm (by simpa using h2)) _ ?_);apply Array.toList_inj.mp;show ((vs.toArray.zip vs.toArray).map (·.2)).toList=_;rw [Array.toList_map,Array.toList_zip,List.map_snd_zip (Nat.le_refl _)];show vs=_;refine List.ext_getElem (by simp) fun i h1 h3=>?_
  simp [List.getD,h1]
 ·have h2':2≤vs.length:=by simpa using h2
  rw [if_neg h2,if_neg h2];refine wpAny_bind (wpAny_mono (hk h2' _ kp (fun k s'=>k=κ∧s'={ s with heap:=((s.heap.update a (Obj.mapSeq fun _=>(#[]:Array Value))).push (seqObj "tuple" vs.toArray 0)).push (seqObj "list" #[] 0) }) ⟨rfl,rfl⟩) (fun k s0 hk0=>?_) fun _ _ x=>x.elim);obtain ⟨rfl,rfl⟩:=hk0;refine wpAny_bind (wpAny_mono (kat_run (ks:=vs) (vs:=vs) (Q:=fun st' s'=>∃p:Array Nat,(KP vs.length p∧Rl p.toList)∧arrOf st'=p.map (kas_item (vs.toArray.zip vs.toArray))∧failedOf st'=none∧s'={ s with heap:=((s.heap.update a (Obj.mapSeq fun _=>(#[]:Array Value))).push (seqObj "tuple" vs.toArray 0)).push (seqObj "list" #[] 0) })
   rfl h2' h64 (G:=fun p s'=>(KP vs.length p∧Rl p.toList)∧s'={ s with heap:=((s.heap.update a (Obj.mapSeq fun _=>(#[]:Array Value))).push (seqObj "tuple" vs.toArray 0)).push (seqObj "list" #[] 0) }) (fun p st' s' a1 a2 a3 a4=>⟨p,a4.1,a2,a3,a4.2⟩) (cu.wp (lt:=lt) (hl h2' _ kp) (fun p hp=>⟨hp,rfl⟩) (hg h2'))) ?_ fun _ _ e=>e)
  rintro ⟨⟨⟩,st'⟩ s' ⟨p,⟨hp,hrl⟩,har,hf,rfl⟩;dsimp only;have hout:=kat_snds (ks:=vs) (vs:=vs) rfl har;have hps:p.toList.length=vs.length:=by rw [hp.length_eq,List.length_range]
  rw [hout];refine wpAny_bind (seqEpoch_at ZJ rfl (wpAny_bind (listUpdate_at ZJ rfl ?_ (Nat.zero_le _) (by rw [List.size_toArray,List.length_map,hps];omega))));rw [hf];simp only [bne_self_eq_false,Bool.false_eq_true,if_false];exact wpAny_pure (fin p.toList hp hrl _ rfl)
theorem vg {r:Addr} {Q:Value→Shared→Prop} (h64:vs.length < 64) (hg:2≤vs.length→cu vs.length lt (kas_sort vs.length) fun p=>KP vs.length p∧Rl p.toList) (hsm:vs.length < 2→Rl (List.range vs.length))
  (hc:∀R:List Value→Shared→Prop,(∀us h1 tk,s.heap.objs.size≤h1.objs.size→(∀b o,s.heap.get? b=some o→h1.get? b=some o)→us=vs→R us { s with heap:=h1,toks:=tk })→wpAny (model prog w) A.in1 (collect (.ref r)) R E s)
  (hk:2≤vs.length→∀s':Shared,(∀b o,s.heap.get? b=some o→s'.heap.get? b=some o)→∀Q:SortKind→Shared→Prop,Q κ s'→wpAny (model prog w) A.in1.in1 (keyKind' vs.toArray) Q (fun _ _=>False) s')
  (hl:2≤vs.length→∀s':Shared,(∀b o,s.heap.get? b=some o→s'.heap.get? b=some o)→∀i j,i < vs.length→j < vs.length→∀C:Bool→Shared→Prop,C (lt i j) s'→kas_ask prog w A.in1.in1 κ vs i j C s')
  (h:∀(p:List Nat) (D:Addr) (h':Heap) (c tk:Nat),p.Perm (List.range vs.length)→Rl p→s.heap.objs.size≤D→(∀b o,s.heap.get? b=some o→h'.get? b=some o)→h'.get? D=some (seqObj "list" (p.map fun i=>vs.getD i Value.none).toArray c)→Q (.ref D) { s with heap:=h',toks:=tk }):
  wpAny (model prog w) A (call (.builtin "sorted") [.ref r]) Q E s:=by
 refine Calls.call_function_entry kind_sorted plain_sorted entry_sorted (args_sorted1 _) ?_;unfold Builtin.«sorted»;refine wpAny_bind (m:=checkCount "sorted" 1 1 _) (wpAny_pure (wpAny_bind (hc _ fun us h1 tk hsz kk eu=>?_)));subst eu;refine wpAny_bind (wpAny_newList ?_ (by rw [sizeLine_eq];omega));have hoL:(h1.push (seqObj "list" us.toArray 0)).get? h1.objs.size=some (seqObj "list" us.toArray 0):=Heap.get?_push_size _ rfl;have ltD:∀b o,s.heap.get? b=some o→b≠h1.objs.size:=fun b o e=>Nat.ne_of_lt (Heap.lt_size (kk b o e))
 have up:∀s':Shared,Kp h1.objs.size (h1.push (seqObj "list" us.toArray 0)) s'.heap→∀b o,s.heap.get? b=some o→s'.heap.get? b=some o:=fun s' k b o e=>k b o (ltD b o e) (Heap.get?_push_of_some _ (kk b o e))
 refine wpAny_bind (wpAny_holding (wpAny_call_entry slot_list_sort ⟨_,hoL,rfl⟩ entry_list_sort (wZ (κ:=κ) (lt:=lt) (s:={ s with heap:=h1.push (seqObj "list" us.toArray 0),toks:=tk }) hoL h64 hg hsm (fun h2 s' k=>hk h2 s' (up s' k)) (fun h2 s' k=>hl h2 s' (up s' k)) fun p h' c hp hrl k e=>⟨_,rfl,?_⟩) (args_list_sort _)));exact wpAny_pure ⟨_,rfl,h p h1.objs.size h' c tk hp hrl hsz (up { s with heap:=h' } k) e⟩
end
def Em (h:Heap) (d:Addr) (es:Array DictEntry) (ep:Nat):Prop:=∃o,h.get? d=some o∧o.ExactDict∧o.data=.dict es ep
section
variable {prog:Program} {w:World} {A:Around} {E:Value→Shared→Prop} {s:Shared} {d it:Addr} {es:Array DictEntry} {ep i:Nat}
theorem Em.ty (h:Em s.heap d es ep):s.TypeIs (.ref d) "dict":=let ⟨o,ho,hc,_⟩:=h;⟨o,ho,hc.1⟩
theorem PN {Q:Value→Shared→Prop} (hd:(d==sysModules)=false) (hm:Em s.heap d es ep)
  (hQ:Q (.ref s.heap.objs.size) { s with heap:=s.heap.push { cls:=.type "dict_keyiterator",data:=.fields #[.ref d,.int 0 0,.int es.size 0,.int ep 0] } }):wpAny (model prog w) A (pyIter (.ref d)) Q E s:=by
 obtain ⟨o,ho,hc,hdat⟩:=id hm;have hT:=hm.ty;refine wpAny_pyIter_slot hT F.slot_dict_iter (wpAny_call_entry F.slot_dict_iter hT F.entry_dict_iter ?_ (F.args_dict_iter_1 _));unfold Builtin.«dict.__iter__»;refine wpAny_bind ?_;unfold Builtin.Dict.dictSlotNone;refine wpAny_bind (wpAny_notOrdered_dict hT ?_);show wpAny _ _ (pure (Value.ref d)) _ _ s
 refine wpAny_pure ?_;show wpAny _ _ (Builtin.Dict.showsAll d >>= _) _ _ s
 unfold Builtin.Dict.showsAll;rw [if_neg (by rw [hd];exact Bool.false_ne_true)];refine wpAny_bind (wpAny_pure (wpAny_bind (wpAny_dictEntries ho hdat (wpAny_bind (wpAny_dictEpoch ho hdat ?_)))));refine wpAny_bind (wpAny_newObj_type (wpAny_pure ⟨_,rfl,"dict_keyiterator",_,⟨_,Heap.get?_push_size _ rfl,rfl⟩,F.slot_dict_keyiterator_next.lookup,?_⟩));simpa [rawInt] using hQ
theorem PX {Q:Option Value→Shared→Prop} (hit:s.heap.IsKeyIter it d i es.size ep) (hm:Em s.heap d es ep) (hlt:i < es.size)
  (hQ:∀h',h'.IsKeyIter it d (i + 1) es.size ep→Heap.SameBut it s.heap h'→Q (some es[i].key) { s with heap:=h' }):wpAny (model prog w) A (pyNext (.ref it)) Q E s:=by
 obtain ⟨o,ho,hc,hd⟩:=id hit;obtain ⟨od,hod,hcd,hdd⟩:=id hm;unfold pyNext;refine wpAny_bind (wpAny_attempt (wpAny_callSpecial?_slot (name:=Str.ofString "__next__") hit.typeIs F.slot_dict_keyiterator_next (wpAny_call_entry F.slot_dict_keyiterator_next hit.typeIs F.entry_dict_keyiterator_next ?_ (F.args_dict_keyiterator_next_1 _))));refine wpAny_bind (wpAny_pure ?_);refine wpAny_bind ?_;refine wpAny_bind ?_
 first | refine wpAny_bind (wpAny_typeNameOfWhole_keyiter hit.typeIs (wpAny_pure (wpAny_bind (wpAny_fieldsOf ho hd ?_)))) | refine wpAny_bind (wpAny_typeNameOf_keyiter hit.typeIs (wpAny_pure (wpAny_bind (wpAny_fieldsOf ho hd ?_))))
 have own:Builtin.Dict_items.ownsTuple "dict_keyiterator"=false:=by decide
 simp only [own,Bool.false_eq_true,if_false];show wpAny _ _ (if (Value.ref d==Value.none)=true then _ else _) _ _ s
 rw [if_neg (show ¬((Value.ref d==Value.none)=true) from Bool.false_ne_true)];refine wpAny_bind (wpAny_pure (wpAny_bind (wpAny_dictEntries hod hdd ?_)));rw [if_neg (by simp)];refine wpAny_bind (wpAny_pure (wpAny_bind (wpAny_dictEpoch hod hdd ?_)));rw [if_neg (by simp)];refine wpAny_pure ?_;simp only [show ¬((i:Int) < 0) from by omega,if_false,Int.toNat_natCast,Array.getElem?_eq_getElem hlt];refine wpAny_bind ?_
 first | refine wpAny_bind (wpAny_typeNameOfWhole_keyiter hit.typeIs (wpAny_pure (wpAny_bind (wpAny_isOneOf_keyiter hit.typeIs ?_)))) | refine wpAny_bind (wpAny_typeNameOf_keyiter hit.typeIs (wpAny_pure (wpAny_bind (wpAny_isOneOf_keyiter hit.typeIs ?_))))
 show wpAny _ _ (setField (.ref it) 1 (rawInt ((i:Int) + 1)) >>= _) _ _ s;refine wpAny_bind (wpAny_setField ho hd (by simp) ?_);have hit':(s.heap.update it (Obj.mapFields (·.setIfInBounds 1 (rawInt ((i:Int) + 1))))).IsKeyIter it d (i + 1) es.size ep:=⟨_,Heap.get?_update_self _ ho (Obj.isFreed_of_fields (Obj.data_mapFields hd _)),(Obj.cls_mapFields ..).trans hc,by rw [Obj.data_mapFields hd];simp [rawInt]⟩
 refine wpAny_bind (wpAny_holding ?_);refine wpAny_bind (wpAny_isOneOf_keyiter (s:={ s with heap:=s.heap.update it (Obj.mapFields (·.setIfInBounds 1 (rawInt ((i:Int) + 1)))) }) hit'.typeIs ?_);show wpAny _ _ (pure es[i].key) _ _ _;exact wpAny_pure (wpAny_pure ⟨_,rfl,wpAny_pure (hQ _ hit' (Heap.SameBut.update ..))⟩)
theorem T5 {Q:Option Value→Shared→Prop} (hh:A.handled=none) (hit:s.heap.IsKeyIter it d i es.size ep) (hm:Em s.heap d es ep) (hge:es.size≤i)
  (hQ:∀h',Heap.ExtBut it s.heap h'→Q none { s with heap:=h' }):wpAny (model prog w) A (pyNext (.ref it)) Q E s:=by
 obtain ⟨o,ho,hc,hd⟩:=id hit;obtain ⟨od,hod,hcd,hdd⟩:=id hm;unfold pyNext;refine wpAny_bind (wpAny_attempt (wpAny_callSpecial?_slot (name:=Str.ofString "__next__") hit.typeIs F.slot_dict_keyiterator_next (wpAny_call_entry F.slot_dict_keyiterator_next hit.typeIs F.entry_dict_keyiterator_next ?_ (F.args_dict_keyiterator_next_1 _))));refine wpAny_bind (wpAny_pure ?_);refine wpAny_bind ?_;refine wpAny_bind ?_
 first | refine wpAny_bind (wpAny_typeNameOfWhole_keyiter hit.typeIs (wpAny_pure (wpAny_bind (wpAny_fieldsOf ho hd ?_)))) | refine wpAny_bind (wpAny_typeNameOf_keyiter hit.typeIs (wpAny_pure (wpAny_bind (wpAny_fieldsOf ho hd ?_))))
 have own:Builtin.Dict_items.ownsTuple "dict_keyiterator"=false:=by decide
 simp only [own,Bool.false_eq_true,if_false];show wpAny _ _ (if (Value.ref d==Value.none)=true then _ else _) _ _ s
 rw [if_neg (show ¬((Value.ref d==Value.none)=true) from Bool.false_ne_true)];refine wpAny_bind (wpAny_pure (wpAny_bind (wpAny_dictEntries hod hdd ?_)));rw [if_neg (by simp)];refine wpAny_bind (wpAny_pure (wpAny_bind (wpAny_dictEpoch hod hdd ?_)));rw [if_neg (by simp)];refine wpAny_pure ?_;simp only [show ¬((i:Int) < 0) from by omega,if_false,Int.toNat_natCast,Array.getElem?_eq_none hge];refine wpAny_bind ?_
 first | refine wpAny_bind (wpAny_typeNameOfWhole_keyiter hit.typeIs (wpAny_pure ?_)) | refine wpAny_bind (wpAny_typeNameOf_keyiter hit.typeIs (wpAny_pure ?_))
 show wpAny _ _ (setField (.ref it) 0 .none >>= _) _ _ s;refine wpAny_bind (wpAny_setField ho hd (by simp) ?_);show wpAny _ _ (newExc (.type "StopIteration") [] >>= _) _ _ _;refine wpAny_bind ?_;simp only [newExc,newTuple];refine wpAny_bind (wpAny_newObj_type ?_ (by size_fits));refine wpAny_bind (m:=firstArgMember _ _) (wpAny_of_eq (a:=Value.none) (by first | rfl | (simp only [firstArgMember];rfl)) ?_);refine wpAny_newObj_type ?_ (by size_fits);simp only [raiseNew];refine wpAny_bind (wpAny_handled ?_);rw [show A.in1.handled=none from hh];refine wpAny_bind (wpAny_pure (wpAny_throw ?_));refine wpAny_bind (wpAny_isInstance (T:="StopIteration") (b:=true) ⟨_,Heap.get?_push_size _ rfl,rfl⟩ isSubtype_stop ?_);exact wpAny_pure (hQ _ (((Heap.SameBut.update ..).extBut.push _).push _))
theorem MF (hh:A.handled=none) (hne:d≠it):Walks prog w A it [it,d] [it] es.size (fun i v=>(es[i]?).map (·.key)=some v) (fun i h=>h.IsKeyIter it d i es.size ep∧Em h d es ep) where
 sub:=fun b hb=>by simp at hb;simp [hb]
 frame:=fun _ _ _ st hk=>⟨st.1.at fun o e=>hk it (by simp) o e,let ⟨o,ho,r⟩:=st.2;⟨o,hk d (by simp) o ho,r⟩⟩
 item:=fun i s Q E hi st hQ=>PX st.1 st.2 hi fun h' hit' hs'=>hQ _ h' s.toks (by simp [hi]) ⟨hit',let ⟨o,ho,r⟩:=st.2;⟨o,(hs'.2 d hne).trans ho,r⟩⟩ fun b o hb e=>(hs'.2 b fun z=>hb (by simp [z])).trans e
 done:=fun s Q E st hQ=>T5 hh st.1 st.2 (Nat.le_refl _) fun h' he'=>hQ h' s.toks fun b o hb e=>he' b o (fun z=>hb (by simp [z])) e
 self:=fun _ _ _ _ st hQ=>wpAny_pyIter_keyiter st.1 hQ
theorem T6 (lo:(d==sysModules)=false):KdlSrc prog w "dict" d d es.size (fun i v=>(es[i]?).map (·.key)=some v) (fun h=>Em h d es ep) where
 type:=fun _ hm=>hm.ty
 there:=fun _ hm=>let ⟨_,ho,_⟩:=hm;⟨Heap.lt_size ho,Heap.lt_size ho⟩
 keep:=fun _ _ hm hk=>let ⟨o,ho,r⟩:=hm;⟨o,hk d (.inl rfl) o ho,r⟩
 notList:=by decide
 notTuple:=by decide
 hint:=fun _ _ _ _ hm hq=>kdl_hint_dict hm.ty hq
 iter:=fun _ _ hh hm=>⟨_,_,(fun _ _ hq=>PN lo hm hq),MF hh (let ⟨_,ho,_⟩:=hm;Nat.ne_of_lt (Heap.lt_size ho)),⟨⟨_,Heap.get?_push_size _ rfl,rfl,rfl⟩,let ⟨o,ho,r⟩:=hm;⟨o,Heap.get?_push_of_some _ ho,r⟩⟩⟩
theorem vh {T:String} {r d:Addr} {n:Nat} {P:Nat→Value→Prop} {OK:Heap→Prop} {R:List Value→Shared→Prop} (K:KdlSrc prog w T r d n P OK) (hh:A.handled=none) (hok:OK s.heap) (hn:n≤sizeLine)
  (h:∀(h':Heap) (tk:Nat) (acc:Array Value),s.heap.objs.size≤h'.objs.size→(∀b o,s.heap.get? b=some o→h'.get? b=some o)→ItemsOf P acc n→R acc.toList { s with heap:=h',toks:=tk }):
  wpAny (model prog w) A (collect (.ref r)) R E s:=by
 have hlt:=K.there _ hok;unfold collect;refine wpAny_bind (wpAny_runValue (codeAny_builtin entry_proto_collect' ?_));rw [Around.under_plainId PySem.F.plain_proto_collect _];show wpAny _ A.in1 (newList [] >>= fun l=>again (.builtin "list.__iadd__" ⟨[l,.ref r],[]⟩)) _ _ s;refine wpAny_bind (wpAny_newObj_type ?_);refine wpAny_pure ⟨plainId_quiet PySem.F.plain_list_iadd _,codeAny_builtin entry_list_iadd' ?_⟩;rw [Around.under_plainId PySem.F.plain_list_iadd _];have hS:(s.heap.push { cls:=.type "list",data:=.seq ([]:List Value).toArray }).get? s.heap.objs.size=some { cls:=.type "list",data:=.seq #[] }:=Heap.get?_push_size _ rfl;show wpAny _ A.in1 (Builtin.List.listExtendWith (.ref s.heap.objs.size) (.ref r) (.ref s.heap.objs.size)) _ _ _;have key:=kdl_extend (A:=A) (s:={ s with heap:=s.heap.push { cls:=.type "list",data:=.seq ([]:List Value).toArray } }) (R:=fun (q:Result) (s':Shared)=>∃(h':Heap) (tk:Nat) (acc':Array Value) (c':Nat),q=.ok (.ret (.ref s.heap.objs.size))∧s'={ s with heap:=h',toks:=tk }∧(∀b o,s.heap.get? b=some o→h'.get? b=some o)∧h'.get? s.heap.objs.size=some { cls:=.type "list",dict:=none,data:=.seq acc' c',slots:=#[] }∧ItemsOf P acc' n)
  K hh (K.keep _ _ hok fun b _ o e=>Heap.get?_push_of_some _ e) s.heap.objs.size (Nat.ne_of_gt hlt.1) (Nat.ne_of_gt hlt.2) (.ref s.heap.objs.size) 0 hS (fun h' tk acc' c' hk hS' hacc=>⟨h',tk,acc',c',rfl,rfl,fun b o e=>hk b o (Nat.ne_of_lt (Heap.lt_size e)) (Heap.get?_push_of_some _ e),hS',hacc⟩) hn
 refine wpAny_mono key (fun fin s' x=>?_) fun e s' x=>?_
 ·cases fin with
  | done f=>
   obtain ⟨h',tk,acc',c',e,rfl,hk,hS',hacc⟩:=x;cases e;show wpAny _ A (load s.heap.objs.size >>= _) _ _ _
   exact wpAny_bind (wpAny_load hS' (wpAny_pure (h h' tk acc' (Nat.le_of_lt (Heap.lt_size hS')) hk hacc)))
  | again c₁=>
   refine ⟨x.1,codeAny_mono x.2 fun q s₂ y=>?_⟩;obtain ⟨h',tk,acc',c',rfl,rfl,hk,hS',hacc⟩:=y;show wpAny _ A (load s.heap.objs.size >>= _) _ _ _;exact wpAny_bind (wpAny_load hS' (wpAny_pure (h h' tk acc' (Nat.le_of_lt (Heap.lt_size hS')) hk hacc)))
 ·obtain ⟨_,_,_,_,e',_⟩:=x;cases e'
end
theorem pX:∀{us:List Value} {ns:List Str},StrsAre us ns→Vals (ns.map V.str) us
 | _,_,.nil=>.nil
 | _,_,.cons _ t r=>.cons ⟨t,rfl⟩ (pX r)
section
variable {X:Cx}
theorem uy:cY X (.builtin "sorted") (fun xs H Q=>∃(p:Addr) (ns:List Int),xs=[.ref p]∧di X.K H p (ns.map V.int)∧ns.length < 64∧∀(l:Addr) (ns':List Int),H l=none→ns'.Perm ns→ns'.Pairwise (·≤·)→Q (.ref l) (upd H l (.lst (ns'.map V.int)))):=by
 intro pins s σ H xs us Q I r h;obtain ⟨p,ns,rfl,hp,h64,q⟩:=h;obtain ⟨u,rfl,ru⟩:=vals1 r;cases ru;obtain ⟨its,rv,pl,_⟩:=I.list hp;have hi:IntsAre its ns:=intsAre_of rv;have hl:=rv.length;rw [List.length_map] at hl;refine sorted_ints pl.isList hi (by omega) fun out ns' a1 a2 a3=>?_
 obtain ⟨e,he⟩:=sortedAll_at s.heap its out;have hz:ns'.length≤sizeLine:=by rw [a2.length_eq,sizeLine_eq];omega
 exact ⟨.ref (s.heap.objs.size + 1),_,I.laid (o:=.lst (ns'.map V.int)) (t':=s.toks) (fun _ _=>sortedAll_old) (Nat.le_succ _) ⟨by rw [List.length_map];exact hz,out.toList,e,ux a1,by simpa [seqObj] using he⟩,rfl,q _ ns' (I.hok.fresh (Nat.le_succ _)) a2 a3⟩
theorem uz:cY X (.builtin "sorted") (fun xs H Q=>∃(p:Addr) (ns:List Str),xs=[.ref p]∧di X.K H p (ns.map V.str)∧ns.length < 64∧∀(l:Addr) (ns':List Str),H l=none→ns'.Perm ns→sortedS ns'=true→Q (.ref l) (upd H l (.lst (ns'.map V.str)))):=by
 intro pins s σ H xs us Q I r h;obtain ⟨p,ns,rfl,hp,h64,q⟩:=h;obtain ⟨u,rfl,ru⟩:=vals1 r;cases ru;obtain ⟨its,rv,pl,_⟩:=I.list hp;have hi:StrsAre its ns:=mW rv;have hl:=rv.length;rw [List.length_map] at hl;refine sorted_strs pl.isList hi (by omega) fun out ns' a1 a2 a3=>?_
 obtain ⟨e,he⟩:=sortedAll_at s.heap its out;have hz:ns'.length≤sizeLine:=by rw [a2.length_eq,sizeLine_eq];omega
 exact ⟨.ref (s.heap.objs.size + 1),_,I.laid (o:=.lst (ns'.map V.str)) (t':=s.toks) (fun _ _=>sortedAll_old) (Nat.le_succ _) ⟨by rw [List.length_map];exact hz,out.toList,e,pX a1,by simpa [seqObj] using he⟩,rfl,q _ ns' (I.hok.fresh (Nat.le_succ _)) a2 a3⟩
theorem iz.aO {k:Nat} {A:Around} (r:iz k A):A.units + 1 < cLine:=by have:=r.un;omega
abbrev Row:=Addr×List Key
def TupAt (h:Heap) (r:Row):Prop:=∃its,Vals (r.2.map kV) its∧IsTup h r.1 its.toArray
theorem TupAt.keep {h h':Heap} {r:Row} (t:TupAt h r) (k:∀b o,h.get? b=some o→h'.get? b=some o):TupAt h' r:=by
 obtain ⟨its,v,o,e,c⟩:=t;exact ⟨its,v,o,k _ _ e,c⟩
theorem J5 {h:Heap} {b:Bool} {sh:List Bool}:∀{rows:List Row},(∀r∈rows,TupAt h r∧r.2.map eX=b::sh)→∃fs,KatTups h (rows.map fun r=>Value.ref r.1) fs∧fs.length=rows.length∧∀f∈fs,∃k,RelV (kV k) f∧eX k=b
 | [],_=>⟨[],KatTups.nil,rfl,by simp⟩
 | r::rows,ha=>by
  obtain ⟨fs,t,l,g⟩:=J5 (rows:=rows) fun q hq=>ha q (List.mem_cons_of_mem _ hq)
  obtain ⟨⟨its,v,o,e,c,n,d⟩,s⟩:=ha r List.mem_cons_self;obtain ⟨a,ks⟩:=r;cases ks with
  | nil=>cases s
  | cons k ks=>
   cases v with
   | @cons _ u _ us v1 v2=>
    refine ⟨u::fs,KatTups.cons e c d (by simp) t,by simp [l],fun f hf=>?_⟩;rcases List.mem_cons.mp hf with rfl | hf
    ·exact ⟨k,v1,(List.cons.inj s).1⟩
    ·exact g f hf
theorem MJ {M:Model} {h:Heap} {k:Key} {f:Value} {b:Bool} (r:RelV (kV k) f) (e:eX k=b):Looks M h (typeOf f) (if b=true then .type "int" else .type "str"):=by
 subst e;cases k with
 | inl i=>obtain ⟨t,rfl⟩:=r;exact Looks.of_pure rfl
 | inr i=>obtain ⟨t,rfl⟩:=r;exact Looks.of_pure rfl
theorem w5 (rows:List Row) {i:Nat} (hi:i < rows.length):(rows.map fun r=>Value.ref r.1).getD i Value.none=.ref rows[i].1:=by simp [List.getD,hi]
def rowAt (rows:List Row) (i:Nat):List Key:=((rows[i]?).map (·.2)).getD []
theorem uA {prog:Program} {w:World} {A:Around} {s':Shared} {rows:List Row} {b:Bool} {sh:List Bool} (ha:∀r∈rows,TupAt s'.heap r∧r.2.map eX=b::sh) (h0:0 < rows.length) (Q:SortKind→Shared→Prop) (q:Q (tuples' true) s'):
  wpAny (model prog w) A (keyKind' (rows.map fun r=>Value.ref r.1).toArray) Q (fun _ _=>False) s':=by
 obtain ⟨fs,t,l,g⟩:=J5 ha;refine kat_kind (T:=if b=true then .type "int" else .type "str") t (by omega) (fun v hv=>?_) (by cases b <;> rfl) (by cases b <;> exact q);obtain ⟨k,r,e⟩:=g v hv;exact MJ r e
theorem T7 {prog:Program} {w:World} {A:Around} {s':Shared} {rows:List Row} {sh:List Bool} (ha:∀r∈rows,TupAt s'.heap r∧r.2.map eX=sh) {i j:Nat} (hi:i < rows.length) (hj:j < rows.length) (C:Bool→Shared→Prop) (q:C (iC (rowAt rows i) (rowAt rows j)) s'):
  kas_ask prog w A (tuples' true) (rows.map fun r=>Value.ref r.1) i j C s':=by
 obtain ⟨⟨its,v,o,e,c,n,d⟩,s1⟩:=ha rows[i] (List.getElem_mem hi);obtain ⟨⟨its2,v2,o2,e2,c2,n2,d2⟩,s2⟩:=ha rows[j] (List.getElem_mem hj);unfold kas_ask;rw [w5 rows hi,w5 rows hj];have l1:=v.length;have l2:=v2.length;have l3:rows[i].2.length=rows[j].2.length:=by
  have:=congrArg List.length (s1.trans s2.symm);simpa using this
 refine kat_lt e d e2 d2 ?_;have ez:decide (its.toArray.size < its2.toArray.size)=false:=by
  rw [decide_eq_false];simp only [List.size_toArray];rw [List.length_map] at l1 l2;omega
 rw [ez];have q':C (iC rows[i].2 rows[j].2) s':=by
  unfold rowAt at q;rw [List.getElem?_eq_getElem hi,List.getElem?_eq_getElem hj] at q;exact q
 exact El (by simpa using v) (by simpa using v2) (s1.trans s2.symm) q'
theorem pY {rows:List Row} {p:List Nat} (h:p.Perm (List.range rows.length)):(p.map fun i=>rows.getD i (0,[])).Perm rows:=by
 have e:(List.range rows.length).map (fun i=>rows.getD i (0,[]))=rows:=List.ext_getElem (by simp) fun i h1 h2=>by simp [List.getD,h2]
 exact (h.map _).trans (by rw [e])
theorem uB {rows:List Row} {p:List Nat} (h:p.Perm (List.range rows.length)):(p.map fun i=>(rows.map fun r=>Value.ref r.1).getD i Value.none)=(p.map fun i=>rows.getD i (0,[])).map fun r=>Value.ref r.1:=by
 rw [List.map_map];refine List.map_congr_left fun i hi=>?_
 have hlt:=List.mem_range.mp (h.mem_iff.mp hi);rw [w5 rows hlt];simp [List.getD,hlt]
theorem J6:∀{rows:List Row} {us:List Value},Vals (rows.map fun r=>V.ref r.1) us→us=rows.map fun r=>Value.ref r.1
 | [],_,h=>by cases h;rfl
 | r::rows,_,h=>by
  cases h with
  | cons a b=>
   cases a;rw [J6 b];rfl
theorem pZ:∀(rows:List Row),Vals (rows.map fun r=>V.ref r.1) (rows.map fun r=>Value.ref r.1)
 | []=>.nil
 | r::rows=>.cons rfl (pZ rows)
end
section
variable {K:PySem.W.Frag} {T:ou} {J:It} {n:Nat} {vs:Nat→List V} {G:Hp→Prop} {ts:TT} {em:TM} {fs:St} {H0 H1:Hp} {D:Addr} {done:Hp→Prop}
end
theorem P0 (A:Around) (s:Shared) {a b:Key} {u v:Value} (ra:RelV (kV a) u) (rb:RelV (kV b) v) (ht:eX a=eX b):SeqAt.EqAt A s u v (decide (a=b)):=by
 rw [←J4 ht];exact HR ra rb (sI a) (sI b)
theorem Eo (A:Around) (s:Shared) {a b:Key} {u v:Value} (ra:RelV (kV a) u) (rb:RelV (kV b) v) (ht:eX a=eX b) (prog:Program) (w:World) (E:Value→Shared→Prop) (Q:Value→Shared→Prop) (h:Q (.bool (kLt a b)) s):
  wpAny (model prog w) A (richCompare .Lt u v) Q E s:=by
 cases a with
 | inl i=>
  cases b with
  | inr y=>cases ht
  | inl j=>
   obtain ⟨t,rfl⟩:=ra;obtain ⟨t',rfl⟩:=rb;exact (lt_int h:wpAny (model prog w) A (compareOp .Lt _ _) Q E s)
 | inr x=>
  cases b with
  | inl y=>cases ht
  | inr y=>
   obtain ⟨t,rfl⟩:=ra;obtain ⟨t',rfl⟩:=rb;exact (lt_str h:wpAny (model prog w) A (compareOp .Lt _ _) Q E s)
section
open PySem.SeqAt
open PySem.AutoSeq1 (wpAny_loadPart')
open PySem.MeetsSeq PySem.MeetsSeq2 PySem.MeetsSeq3
theorem zq (l b:Addr) (items items2:Array Value) (n n2:Nat) (dd dd2:Option Addr) (sl sl2:Array (Option Value)) (ns ms:List Key) (hi:Vals (ns.map kV) items.toList) (hj:Vals (ms.map kV) items2.toList) (hty:ns.map eX=ms.map eX):
  Meets (Builtin.«tuple.__lt__» ⟨[.ref l,.ref b],[]⟩)
   (fun _ R s=>s.heap.get? l=some { cls:=.type "tuple",dict:=dd,data:=.seq items n,slots:=sl }∧s.heap.get? b=some { cls:=.type "tuple",dict:=dd2,data:=.seq items2 n2,slots:=sl2 }∧R (.ok (.ret (.bool (iC ns ms)))) s):=
 .of_wp fun prog w A R s h=>by
  obtain ⟨hp,g,d,tk,os⟩:=s;obtain ⟨hl,hb,h⟩:=h;have f2:=AutoSeq1.sub_tuple_tuple;have z0:ns.length=ms.length:=by have:=congrArg List.length hty;simpa using this
  have z1:items.size=ns.length:=by have:=hi.length;rw [List.length_map] at this;simpa using this.symm
  have z2:items2.size=ms.length:=by have:=hj.length;rw [List.length_map] at this;simpa using this.symm
  wp_walk using wpAny_loadPart' hl,wpAny_loadPart' hb,wpAny_forIn_list _ (fun rest b s'=>b.1=none∧s'=⟨hp,g,d,tk,os⟩∧∃(vs ws:List Value) (ns' ms':List Key),rest=vs.zip ws∧
   Vals (ns'.map kV) vs∧Vals (ms'.map kV) ws∧ns'.map eX=ms'.map eX∧R (.ok (.ret (.bool (iC ns' ms')))) ⟨hp,g,d,tk,os⟩) _
  case turn=>
   rintro ⟨y,x⟩ rest b s' ⟨hb',rfl,vs,ws,ns',ms',hz,hvi,hwi,hlen,hR⟩;cases ns' with
   | nil=>cases hvi;rw [List.zip_nil_left] at hz;cases hz
   | cons a ns'=>
    cases ms' with
    | nil=>cases hlen
    | cons c ms'=>
     cases hvi with
     | cons r1 ZK=>
      cases hwi with
      | cons r2 ZL=>
       rw [List.zip_cons_cons] at hz;injection hz with hyx hrest
       injection hyx with hy hx
       subst hy hx;have t1:eX a=eX c:=(List.cons.inj hlen).1;have t2:=(List.cons.inj hlen).2;unfold iC at hR;refine wpAny_bind (P0 A.in1 ⟨hp,g,d,tk,os⟩ r1 r2 t1 prog w _ _ ?_);by_cases hac:a=c
       ·rw [if_pos hac] at hR;rw [decide_eq_true hac];wp_walk;exact ⟨rfl,rfl,_,_,_,_,hrest,ZK,ZL,t2,hR⟩
       ·rw [if_neg hac] at hR;rw [decide_eq_false hac];have hri:=Eo A.in1 ⟨hp,g,d,tk,os⟩ r1 r2 t1 prog w;wp_walk using hri;exact ⟨_,rfl,by simpa using hR⟩
  case fin=>
   rintro ⟨b1,b2⟩ s' ⟨hb',rfl,vs,ws,ns',ms',hz,hvi,hwi,hlen,hR⟩;simp only at hb';subst hb';have hv:iC ns' ms'=decide (items.size < items2.size):=by
    rw [decide_eq_false (by omega)];cases ns' with
    | nil=>unfold iC;rfl
    | cons a ns'=>
     cases ms' with
     | nil=>cases hlen
     | cons c ms'=>
      cases hvi with
      | cons r1 ZK=>
       cases hwi with
       | cons r2 ZL=>
        rw [List.zip_cons_cons] at hz;cases hz
   rw [hv] at hR;wp_walk;exact ⟨_,rfl,by simpa [Builtin.Tuple.tupleCompareSizes] using hR⟩
  case h=>
   exact ⟨rfl,rfl,items.toList,items2.toList,ns,ms,rfl,hi,hj,hty,h⟩
end
theorem xj {prog:Program} {w:World} {A:Around} {E:Value→Shared→Prop} {s:Shared} {l b:Addr} {items items2:Array Value} {ns ms:List Key} {Q:Value→Shared→Prop} (hl:IsTup s.heap l items) (hb:IsTup s.heap b items2) (hi:Vals (ns.map kV) items.toList) (hj:Vals (ms.map kV) items2.toList) (hty:ns.map eX=ms.map eX)
  (hu:A.units < cLine) (h:Q (.bool (iC ns ms)) s):wpAny (model prog w) A (compareOp .Lt (.ref l) (.ref b)) Q E s:=by
 obtain ⟨⟨cls,dd,data,sl⟩,ho,hc,n,hd⟩:=id hl;obtain ⟨⟨cls2,dd2,data2,sl2⟩,ho2,hc2,n2,hd2⟩:=id hb;simp only at hc hd hc2 hd2;subst hc hd hc2 hd2;exact richCompare_meets_room (op:=.Lt) ⟨_,ho,rfl⟩ ⟨_,ho2,rfl⟩ PySem.F.slot_tuple_lt PySem.F.entry_tuple_lt (PySem.F.args_tuple_lt_2 _ _) (zq l b items items2 n n2 dd dd2 sl sl2 ns ms hi hj hty)
  ⟨ho,ho2,show Value.bool (iC ns ms)≠Value.notImplemented∧Q (.bool (iC ns ms)) s from ⟨(fun x=>nomatch x),h⟩⟩ hu
mutual
def RX (H:Hp):PyData→V→Prop
 | .none,v=>v=.non
 | .bool b,v=>v=.bl b
 | .int i,v=>v=.int i
 | .str x,v=>v=.str x
 | .list ds,v=>∃a vs,v=.ref a∧H a=some (.lst vs)∧Ep H ds vs
 | .tuple ds,v=>∃a vs,v=.ref a∧H a=some (.tup vs)∧Ep H ds vs
 | .dict _,_=>False
def Ep (H:Hp):List PyData→List V→Prop
 | [],vs=>vs=[]
 | d::ds,vs=>∃v r,vs=v::r∧RX H d v∧Ep H ds r
end
mutual
theorem RX.same {H H':Hp} (s:bu H H'):∀{d:PyData} {v:V},RX H d v→RX H' d v
 | .none,_,h=>h
 | .bool _,_,h=>h
 | .int _,_,h=>h
 | .str _,_,h=>h
 | .list ds,_,h=>by
  obtain ⟨a,vs,e,q,r⟩:=h;exact ⟨a,vs,e,s _ _ q,Ep.same s r⟩
 | .tuple ds,_,h=>by
  obtain ⟨a,vs,e,q,r⟩:=h;exact ⟨a,vs,e,s _ _ q,Ep.same s r⟩
theorem Ep.same {H H':Hp} (s:bu H H'):∀{ds:List PyData} {vs:List V},Ep H ds vs→Ep H' ds vs
 | [],_,h=>h
 | d::ds,vs,h=>by
  obtain ⟨v,r,e,q,t⟩:=h;exact ⟨v,r,e,RX.same s q,Ep.same s t⟩
end
mutual
theorem RX.rd {K:PySem.W.Frag} {H:Hp}:∀{d:PyData} {v:V},RX H d v→RD K H d v
 | .none,_,h=>h
 | .bool _,_,h=>h
 | .int _,_,h=>h
 | .str _,_,h=>h
 | .list ds,_,h=>by
  obtain ⟨a,vs,e,q,r⟩:=h;exact ⟨a,vs,e,di.of q,Ep.rd r⟩
 | .tuple ds,_,h=>by
  obtain ⟨a,vs,e,q,r⟩:=h;exact ⟨a,vs,e,jD.of q,Ep.rd r⟩
theorem Ep.rd {K:PySem.W.Frag} {H:Hp}:∀{ds:List PyData} {vs:List V},Ep H ds vs→Ia K H ds vs
 | [],_,h=>h
 | d::ds,vs,h=>by
  obtain ⟨v,r,e,q,t⟩:=h;exact ⟨v,r,e,RX.rd q,Ep.rd t⟩
end
def ZM:PyData→Value
 | .none=>.type "NoneType"
 | .bool _=>.type "bool"
 | .int _=>.type "int"
 | .str _=>.type "str"
 | .list _=>.type "list"
 | .tuple _=>.type "tuple"
 | .dict _=>.type "dict"
theorem RX.ty {K:PySem.W.Frag} {H:Hp} {d:PyData} {v:V} (h:RX H d v):oG K H v (ZM d):=by
 cases d with
 | none=>cases (show v=.non from h);exact .non
 | bool b=>cases (show v=.bl b from h);exact .bl b
 | int i=>cases (show v=.int i from h);exact .int i
 | str x=>cases (show v=.str x from h);exact .str x
 | list ds=>obtain ⟨a,vs,rfl,e,_⟩:=h;exact .lst e
 | tuple ds=>obtain ⟨a,vs,rfl,e,_⟩:=h;exact .tup e
 | dict ds=>exact (show False from h).elim
section
variable {X:Cx}
theorem Ig (hu:X.A.units < cLine):g8 X (compareOp .Lt) (fun x y H Q=>∃a b ks js,x=.ref a∧y=.ref b∧H a=some (.tup (ks.map kV))∧H b=some (.tup (js.map kV))∧ks.map eX=js.map eX∧Q (.bl (iC ks js)) H):=by
 intro pins s σ H x y v u Q I rx ry h;obtain ⟨a,b,ks,js,rfl,rfl,ha,hb,ht,q⟩:=h;cases rx;cases ry;obtain ⟨_,its,r1,p1⟩:=(show cB X.prog X.w H s.heap a (.tup (ks.map kV)) from I.hok a _ ha)
 obtain ⟨_,its2,r2,p2⟩:=(show cB X.prog X.w H s.heap b (.tup (js.map kV)) from I.hok b _ hb)
 exact xj p1 p2 (by simpa using r1) (by simpa using r2) ht hu (bR I q rfl)
theorem rm (hu:X.A.units < cLine):g8 X (compareOp .Lt) (fun x y H Q=>(∃a b,x=kV a∧y=kV b∧eX a=eX b∧Q (.bl (kLt a b)) H)∨∃a b ks js,x=.ref a∧y=.ref b∧H a=some (.tup (ks.map kV))∧H b=some (.tup (js.map kV))∧ks.map eX=js.map eX∧Q (.bl (iC ks js)) H):=by
 refine g8.or ?_ (Ig hu);intro pins s σ H x y v u Q I rx ry h;obtain ⟨a,b,rfl,rfl,ht,q⟩:=h;exact Eo X.A s rx ry ht _ _ _ _ (bR I q rfl)
end
structure Ord (lt:Nat→Nat→Bool):Prop where
 ZP:∀a b,lt a b=true→lt b a=false
 trans:∀a b c,lt b a=false→lt c b=false→lt c a=false
section
variable {N:Nat} {lt:Nat→Nat→Bool} (O:Ord lt)
abbrev at0 (p:Array Nat) (i:Nat):Nat:=p.getD i 0
def Up (lt:Nat→Nat→Bool) (p:Array Nat) (n:Nat):Prop:=∀i j,i < j→j < n→lt (at0 p j) (at0 p i)=false
def Dn (lt:Nat→Nat→Bool) (p:Array Nat) (n:Nat):Prop:=∀i j,i < j→j < n→lt (at0 p i) (at0 p j)=false
theorem Ih (p:Array Nat) (i:Nat):at0 p i=(p[i]?).getD 0:=Array.getD_eq_getD_getElem?
theorem Qa {p:Array Nat} {i j:Nat} (hj:j≤p.size) (k:Nat):at0 (kas_rev p i j) k=if i≤k∧k < j then at0 p (i + j - 1 - k) else at0 p k:=by
 rw [Ih,Ih,Ih];unfold kas_rev;rw [getElem?_mirror_all hj];split <;> rfl
theorem KP.size {p:Array Nat} (h:KP N p):p.size=N:=by
 have:=h.length_eq;rw [List.length_range] at this;simpa using this
include O
theorem Up.succ {p:Array Nat} {n:Nat} (h:Up lt p n) (hn:1≤n) (hs:lt (at0 p n) (at0 p (n - 1))=false):Up lt p (n + 1):=fun i j hij hj=>by
 by_cases e:j < n
 ·exact h i j hij e
 ·have ej:j=n:=by omega
  subst ej;by_cases ei:i=j - 1
  ·rw [ei];exact hs
  ·exact O.trans _ _ _ (h i (j - 1) (by omega) (by omega)) hs
theorem Dn.succ {p:Array Nat} {n:Nat} (h:Dn lt p n) (hn:1≤n) (hs:lt (at0 p (n - 1)) (at0 p n)=false):Dn lt p (n + 1):=fun i j hij hj=>by
 by_cases e:j < n
 ·exact h i j hij e
 ·have ej:j=n:=by omega
  subst ej;by_cases ei:i=j - 1
  ·rw [ei];exact hs
  ·exact O.trans _ _ _ hs (h i (j - 1) (by omega) (by omega))
theorem Dn.turn {p:Array Nat} {n:Nat} (h:Dn lt p n) (hn:n≤p.size):Up lt (kas_rev p 0 n) n:=fun a b hab hb=>by
 rw [Qa hn,Qa hn,if_pos ⟨by omega,by omega⟩,if_pos ⟨by omega,by omega⟩];exact h _ _ (by omega) (by omega)
end
theorem T8 {a b:Key} (h:kLt a b=true):kLt b a=false:=by
 cases a with
 | inl i=>
  cases b with
  | inr y=>cases h
  | inl j=>have:=of_decide_eq_true h;exact decide_eq_false (by omega)
 | inr x=>
  cases b with
  | inl y=>cases h
  | inr y=>exact KeyOrd.klt_asymm (O:=strKind.toKeyOrd) (a:=x.cps.toList) (b:=y.cps.toList) h
theorem Xm {a b c:Key} (t1:eX a=eX b) (t2:eX b=eX c) (h:kLt a c=true):kLt a b=true∨kLt b c=true:=by
 cases a with
 | inl i=>
  cases b with
  | inr y=>cases t1
  | inl j=>
   cases c with
   | inr y=>cases t2
   | inl k=>
    have h1:=of_decide_eq_true h;by_cases h2:i < j
    ·exact .inl (decide_eq_true h2)
    ·exact .inr (decide_eq_true (by omega))
 | inr x=>
  cases b with
  | inl y=>cases t1
  | inr y=>
   cases c with
   | inl k=>cases t2
   | inr z=>exact strKind.negTrans x.cps.toList y.cps.toList z.cps.toList h
theorem str_of_list {x y:Str} (h:x.cps.toList=y.cps.toList):x=y:=by
 cases x;cases y;simp at h;simp [h]
theorem Xn {a b:Key} (t:eX a=eX b) (h1:kLt a b=false) (h2:kLt b a=false):a=b:=by
 cases a with
 | inl i=>
  cases b with
  | inr y=>cases t
  | inl j=>
   have g1:=of_decide_eq_false h1;have g2:=of_decide_eq_false h2;have:i=j:=by omega
   rw [this]
 | inr x=>
  cases b with
  | inl y=>cases t
  | inr y=>
   have:=strKind.total x.cps.toList y.cps.toList h1 h2;rw [str_of_list this]
def sJ (rows:List Row) (i:Nat):List Key:=(rows.getD i (rows.headD (0,[]))).2
def gq (rows:List Row) (i j:Nat):Bool:=iC (sJ rows i) (sJ rows j)
def runK {α:Type} (lt:Nat→Nat→Bool):KasT α→α
 | .ret a=>a
 | .ask i j k=>runK lt (k (lt i j))
theorem cu.run {α:Type} {N:Nat} {lt:Nat→Nat→Bool} {R:α→Prop}:∀{t:KasT α},cu N lt t R→cu N lt t (fun a=>R a∧a=runK lt t)∧R (runK lt t)
 | .ret a,h=>⟨⟨h,rfl⟩,h⟩
 | .ask i j k,h=>let r:=cu.run h.2.2;⟨⟨h.1,h.2.1,r.1⟩,r.2⟩
def vK (ks:List (List Key)):List Nat:=if ks.length < 2 then List.range ks.length else (runK (fun i j=>iC (ks.getD i (ks.headD [])) (ks.getD j (ks.headD []))) (kas_sort ks.length)).toList
def xm (ks:List (List Key)):List (List Key):=(vK ks).map fun i=>ks.getD i (ks.headD [])
theorem MK (ks:List (List Key)):(vK ks).Perm (List.range ks.length):=by
 unfold vK;split
 ·exact List.Perm.refl _
 ·exact (cu.run (J3 (lt:=fun i j=>iC (ks.getD i (ks.headD [])) (ks.getD j (ks.headD []))) (by omega))).2
theorem MN (ks:List (List Key)):(xm ks).Perm ks:=by
 have:=(MK ks).map fun i=>ks.getD i (ks.headD [])
 refine this.trans (List.Perm.of_eq ?_);refine List.ext_getElem (by simp) fun i h1 h2=>?_
 simp [h2]
theorem sO (rows:List Row) (i:Nat):sJ rows i=(rows.map (·.2)).getD i ((rows.map (·.2)).headD []):=by
 unfold sJ;cases h:rows[i]? with
 | none=>cases rows <;> simp_all [List.getD]
 | some r=>simp [List.getD,h]
theorem uC {rows:List Row} {n:Nat} (hn:n=rows.length) (h2:2≤n):cu n (gq rows) (kas_sort n) fun p=>KP n p∧p.toList=vK (rows.map (·.2)):=by
 subst hn;have e:gq rows=fun i j=>iC ((rows.map (·.2)).getD i ((rows.map (·.2)).headD [])) ((rows.map (·.2)).getD j ((rows.map (·.2)).headD [])):=by
  funext i j;rw [gq,sO,sO]
 refine (cu.run (J3 (lt:=gq rows) (N:=rows.length) (by omega))).1.mono fun p hp=>⟨hp.1,?_⟩
 unfold vK;rw [if_neg (by rw [List.length_map];omega),hp.2,e,List.length_map]
theorem rA {rows:List Row} {n:Nat} (hn:n=rows.length) (h:n < 2):List.range n=vK (rows.map (·.2)):=by
 subst hn;unfold vK;rw [if_pos (by rw [List.length_map];exact h),List.length_map]
theorem Bo {rows:List Row} {p:List Nat} (h:p.Perm (List.range rows.length)) (hr:p=vK (rows.map (·.2))):(p.map fun i=>rows.getD i (0,[])).map (·.2)=xm (rows.map (·.2)):=by
 unfold xm;rw [←hr,List.map_map];refine List.map_congr_left fun i hi=>?_
 have hlt:=List.mem_range.mp (h.mem_iff.mp hi);simp [List.getD,hlt]
section
variable {X:Cx}
theorem xq {prog:Program} {w:World} {A:Around} {s':Shared} {rows:List Row} {sh:List Bool} (ha:∀r∈rows,TupAt s'.heap r∧r.2.map eX=sh) {i j:Nat} (hi:i < rows.length) (hj:j < rows.length) (C:Bool→Shared→Prop) (q:C (gq rows i j) s'):
  kas_ask prog w A (tuples' true) (rows.map fun r=>Value.ref r.1) i j C s':=by
 refine T7 ha hi hj C ?_;have e1:sJ rows i=rowAt rows i:=by simp [sJ,rowAt,List.getD,hi]
 have e2:sJ rows j=rowAt rows j:=by simp [sJ,rowAt,List.getD,hj]
 unfold gq at q;rw [e1,e2] at q;exact q
theorem sU:cY X (.builtin "sorted") (fun xs H Q=>∃(p:Addr) (rows:List Row) (b:Bool) (sh:List Bool),xs=[.ref p]∧di X.K H p (rows.map fun r=>V.ref r.1)∧rows.length < 64∧(∀r∈rows,H r.1=some (.tup (r.2.map kV))∧r.2.map eX=b::sh)∧
  ∀(l:Addr) (rows':List Row),H l=none→rows'.Perm rows→rows'.map (·.2)=xm (rows.map (·.2))→Q (.ref l) (upd H l (.lst (rows'.map fun r=>V.ref r.1)))):=by
 intro pins s σ H xs us Q I r h;obtain ⟨p,rows,b,sh,rfl,hp,h64,ha,q⟩:=h;obtain ⟨u,rfl,ru⟩:=vals1 r;cases ru;obtain ⟨its,rv,pl,_⟩:=I.list hp;have e0:=J6 rv;subst e0;have tu:∀r∈rows,TupAt s.heap r∧r.2.map eX=b::sh:=fun r hr=>by
  obtain ⟨_,its,v,t⟩:=(show cB X.prog X.w H s.heap r.1 (.tup (r.2.map kV)) from I.hok r.1 _ (ha r hr).1)
  exact ⟨⟨its,v,t⟩,(ha r hr).2⟩
 refine vg (κ:=tuples' true) (lt:=gq rows) (vs:=rows.map fun r=>Value.ref r.1) (Rl:=fun p=>p=vK (rows.map (·.2))) (by simpa using h64) (fun h2=>uC (by rw [List.length_map]) h2) (fun h2=>rA (by rw [List.length_map]) h2) (fun R hR=>?_) (fun h2 s' k Q' q'=>uA (fun r hr=>⟨(tu r hr).1.keep k,(tu r hr).2⟩) (by rw [List.length_map] at h2;omega) Q' q')
  (fun h2 s' k i j hi hj C q'=>xq (sh:=b::sh) (fun r hr=>⟨(tu r hr).1.keep k,(tu r hr).2⟩) (by simpa using hi) (by simpa using hj) C q') fun p D h' c tk hp' hrl hD k e=>?_
 ·refine collect_list pl.isList (hR _ _ s.toks ?_ (fun b o e=>?_) rfl)
  ·rw [Heap.size_update,size_push'];omega
  ·have hlt:b≠s.heap.objs.size:=Nat.ne_of_lt (Heap.lt_size e);rw [Heap.get?_update_ne _ _ _ _ hlt];exact Heap.get?_push_of_some _ e
 ·rw [List.length_map] at hp';rw [uB hp'] at e;refine ⟨.ref D,_,I.laid (o:=.lst ((p.map fun i=>rows.getD i (0,[])).map fun r=>V.ref r.1)) k hD ⟨?_,_,c,pZ _,by simpa [seqObj] using e⟩,rfl,q D _ (I.hok.fresh hD) (pY hp') (Bo hp' hrl)⟩;rw [List.length_map,List.length_map,hp'.length_eq,List.length_range,sizeLine_eq];omega
theorem nH (hc:X.calm=true):cY X (.builtin "sorted") (fun xs H Q=>∃(d:Addr) (kvs:List (List Key×V)) (b:Bool) (sh:List Bool),xs=[.ref d]∧H d=some (.dT kvs)∧kvs.length < 64∧(∀kv∈kvs,kv.1.map eX=b::sh)∧
  ∀(l:Addr) (rows:List Row),H l=none→(rows.map (·.2)).Perm (kvs.map (·.1))→rows.map (·.2)=xm (kvs.map (·.1))→(∀r∈rows,H r.1=some (.tup (r.2.map kV)))→Q (.ref l) (upd H l (.lst (rows.map fun r=>V.ref r.1)))):=by
 intro pins s σ H xs us Q I r h;obtain ⟨d,kvs,b,sh,rfl,hd,h64,ha,q⟩:=h;obtain ⟨u,rfl,ru⟩:=vals1 r;cases ru;obtain ⟨z,lo,ys,rel,o,es,ep,g1,g2,g3,g4,g5,g6⟩:=VG I.hok hd;have raw:Em s.heap d es ep:=⟨o,g1,g2,g3⟩
 obtain ⟨rows,r1,r2,r3⟩:∃rows:List Row,rows.map (·.2)=kvs.map (·.1)∧(∀r∈rows,H r.1=some (.tup (r.2.map kV)))∧es.toList.map (·.key)=rows.map fun r=>Value.ref r.1:=by
  clear g5 g6 h64 ha q z hd;rw [g4];clear g4 raw g3;induction rel with
  | nil=>exact ⟨[],rfl,by simp,rfl⟩
  | @cons p q ps qs h t ih=>
   obtain ⟨rows,a1,a2,a3⟩:=ih;refine ⟨(q.2.1,p.1)::rows,by simp [a1],fun r hr=>?_,?_⟩
   ·rcases List.mem_cons.mp hr with rfl | hr
    ·exact h.2.1
    ·exact a2 r hr
   ·rw [List.map_cons,List.map_cons,a3];rfl
 have hlen:rows.length=kvs.length:=by
  have:=congrArg List.length r1;simpa using this
 have hes:es.size=rows.length:=by
  have:=congrArg List.length r3;simpa using this
 have tu:∀r∈rows,TupAt s.heap r∧r.2.map eX=b::sh:=fun r hr=>by
  obtain ⟨_,its,v,t⟩:=(show cB X.prog X.w H s.heap r.1 (.tup (r.2.map kV)) from I.hok r.1 _ (r2 r hr))
  have:r.2∈kvs.map (·.1):=by rw [←r1];exact List.mem_map.mpr ⟨r,hr,rfl⟩
  obtain ⟨kv,hk,e⟩:=List.mem_map.mp this;exact ⟨⟨its,v,t⟩,by rw [←e];exact ha kv hk⟩
 refine vg (κ:=tuples' true) (lt:=gq rows) (vs:=rows.map fun r=>Value.ref r.1) (Rl:=fun p=>p=vK (rows.map (·.2))) (by rw [List.length_map];omega) (fun h2=>uC (by rw [List.length_map]) h2) (fun h2=>rA (by rw [List.length_map]) h2) (fun R hR=>?_) (fun h2 s' k Q' q'=>uA (fun r hr=>⟨(tu r hr).1.keep k,(tu r hr).2⟩) (by rw [List.length_map] at h2;omega) Q' q')
  (fun h2 s' k i j hi hj C q'=>xq (sh:=b::sh) (fun r hr=>⟨(tu r hr).1.keep k,(tu r hr).2⟩) (by simpa using hi) (by simpa using hj) C q') fun p D h' c tk hp' hrl hD k e=>?_
 ·refine vh (T6 (es:=es) (ep:=ep) lo) (I.ok.hd hc) raw (by rw [sizeLine_eq];omega) fun h' tk acc hsz kk hacc=>hR _ h' tk hsz kk ?_
  refine List.ext_getElem? fun i=>?_
  by_cases hi:i < es.size
  ·have e1:acc.size=es.size:=hacc.1;have:=hacc.2 i (acc[i]'(by omega)) (by simp [e1,hi]);rw [Array.getElem?_toList,Array.getElem?_eq_getElem (by omega)];rw [←this,←r3,List.getElem?_map,Array.getElem?_toList]
  ·have e1:acc.size=es.size:=hacc.1;rw [List.getElem?_eq_none (by simp;omega),List.getElem?_eq_none (by simp;omega)]
 ·rw [List.length_map] at hp';rw [uB hp'] at e;refine ⟨.ref D,_,I.laid (o:=.lst ((p.map fun i=>rows.getD i (0,[])).map fun r=>V.ref r.1)) k hD ⟨?_,_,c,pZ _,by simpa [seqObj] using e⟩,rfl,q D _ (I.hok.fresh hD) (((pY hp').map _).trans (by rw [r1])) ((Bo hp' hrl).trans (by rw [r1])) fun r hr=>r2 r ((pY hp').mem_iff.mp hr)⟩;rw [List.length_map,List.length_map,hp'.length_eq,List.length_range,sizeLine_eq];omega
end
abbrev xr:=List (Option PyData)
def oK (H:Hp) (Γ:xr) (σ:St):Prop:=σ.length=Γ.length∧∀(i:Nat) (d:PyData),Γ[i]?=some (some d)→∃v,σ[i]?=some (some v)∧RX H d v
theorem oK.same {H H':Hp} {Γ:xr} {σ:St} (h:oK H Γ σ) (s:bu H H'):oK H' Γ σ:=⟨h.1,fun i d e=>let ⟨v,a,b⟩:=h.2 i d e;⟨v,a,b.same s⟩⟩
theorem oK.set {H:Hp} {Γ:xr} {σ:St} (h:oK H Γ σ) {i:Nat} {d:PyData} {v:V} (hv:RX H d v):oK H (Γ.set i (some d)) (σ.set i (some v)):=by
 refine ⟨by rw [List.length_set,List.length_set];exact h.1,fun j e he=>?_⟩;by_cases hj:i=j
 ·subst hj;rw [List.getElem?_set] at he;simp only [if_true] at he;split at he
  ·rename_i hl;cases he;refine ⟨v,?_,hv⟩;rw [List.getElem?_set];simp only [if_true];rw [if_pos (by rw [h.1];exact hl)]
  ·cases he
 ·rw [List.getElem?_set_ne hj] at he;rw [List.getElem?_set_ne hj];exact h.2 j e he
def er (Z:List Addr) (H:Hp):Hp:=fun b=>if b∈Z then none else H b
theorem bZ {Z:List Addr} {H:Hp} {b:Addr} {o:HO} (h:er Z H b=some o):H b=some o:=by
 unfold er at h;split at h
 ·cases h
 ·exact h
theorem zW (Z:List Addr) (H:Hp):bu (er Z H) H:=fun b o h=>bZ h
theorem Bp {Z:List Addr} {H H':Hp} (s:bu H H'):bu (er Z H) (er Z H'):=fun b o h=>by
 unfold er at h ⊢;split at h
 ·cases h
 ·rename_i n;rw [if_neg n];exact s _ _ h
theorem xu (H:Hp):er [] H=H:=by
 funext b;simp [er]
def Bq (t:TE) (Γ:xr) (d:PyData):Prop:=∀Z σ H (Q:VK),(∀b,b∈Z→H b≠none)→oK (er Z H) Γ σ→(∀v H',bu H H'→RX (er Z H') d v→Q v H')→t σ H Q
def J7 (t:TA) (Γ:xr) (ds:List PyData):Prop:=∀Z σ H (Q:List V→Hp→Prop),(∀b,b∈Z→H b≠none)→oK (er Z H) Γ σ→(∀vs H',bu H H'→Ep (er Z H') ds vs→Q vs H')→t σ H Q
section
variable {Γ:xr} {K:PySem.W.Frag}
theorem Bq.run {t:TE} {d:PyData} (h:Bq t Γ d) {σ:St} {H:Hp} {Q:VK} (e:oK H Γ σ) (q:∀v H',bu H H'→RX H' d v→Q v H'):t σ H Q:=
 h [] σ H Q (fun _ m=>by cases m) (by rw [xu];exact e) fun v H' s r=>q v H' s (by rw [xu] at r;exact r)
end
end L2
namespace HT
open PySem PySem.Spec PyProof.Rows
section
variable {prog:Program} {w:World} {A:Around} {E:Value→Shared→Prop} {s:Shared}
theorem qz {t sl:Addr} {items:Array Value} {vl vu:Value} {lo hi:Option Int} {Q:Value→Shared→Prop} (ht:IsTup s.heap t items) (hs:s.heap.IsSliceOf sl vl vu .none) (pl:IsPart vl lo) (pu:IsPart vu hi)
  (hw:fJ items.size 0 lo=0∧fJ items.size items.size hi=items.size) (h:Q (.ref t) s):wpAny (model prog w) A (getItem (.ref t) (.ref sl)) Q E s:=by
 obtain ⟨os,hos,hcs,hds⟩:=id hs;have hTs:s.TypeIs (.ref sl) "slice":=⟨os,hos,hcs⟩
 unfold getItem
 try with_reducible refine wpAny_holding ?_
 first | refine wpAny_bind (wpAny_pure ?_) | skip
 refine wpAny_bind (wpAny_sequenceKey ht.typeIs (by decide) ?_);refine wpAny_bind (wpAny_callSpecial?_slot (name:=Str.ofString "__getitem__") ht.typeIs PyProof.Rows.slot_tuple_getitem
  (wpAny_call_entry PyProof.Rows.slot_tuple_getitem ht.typeIs entry_tuple_getitem ?_ (args_tuple_getitem _ _)))
 show wpAny _ _ (Builtin.Tuple.tupleItemsOf (.ref t) >>= _) _ _ s;refine wpAny_bind (tupleItemsOf_ ht ?_);refine wpAny_bind (wpAny_typeOf hTs ?_);rw [if_pos (by decide)];refine wpAny_bind (lW hs pl pu ?_);have hyes:((((fJ items.size 0 lo:Nat):Int)==0&&(1:Int)==1&&(fJ items.size items.size hi - fJ items.size 0 lo)==items.size)=true):=by
  rw [hw.1,hw.2];simp
 show wpAny _ _ (if (((fJ items.size 0 lo:Nat):Int)==0&&(1:Int)==1&&(fJ items.size items.size hi - fJ items.size 0 lo)==items.size)=true then _ else _) _ _ s;rw [if_pos hyes];unfold Builtin.Tuple.tupleIsExact;refine wpAny_bind (wpAny_bind (wpAny_typeOf ht.typeIs (wpAny_pure ?_)));rw [if_pos (by decide)];refine wpAny_bind (wpAny_rule ?_);exact wpAny_pure ⟨_,rfl,wpAny_pure h⟩
end
end HT
namespace L2
open PySem PySem.Spec PyProof.Rows PySem.W
section
variable {X:Cx}
def abt (K:PySem.W.Frag):V→Option Int→Option Int→Hp→VK→Prop:=fun x lo hi H Q=>∃a xs,x=.ref a∧jD K H a xs∧(wL xs lo hi=xs→Q (.ref a) H)∧∀p,H p=none→Q (.ref p) (upd H p (.tup (wL xs lo hi)))
theorem T9:Tq X (abt X.K):=by
 intro pins s σ H x v vl vu lo hi sl Q I rx hs pl pu h;obtain ⟨a,xs,rfl,hx,q1,q2⟩:=h;by_cases hw:HT.fJ xs.length 0 lo=0∧HT.fJ xs.length xs.length hi=xs.length
 ·cases rx;obtain ⟨its,r,ht,hz⟩:=I.tuple hx;have hlen:its.toArray.size=xs.length:=by rw [List.size_toArray];exact r.length.symm
  refine ⟨"tuple",_,PyProof.Rows.slot_tuple_getitem.lookup,ht.typeIs,?_⟩;refine HT.qz ht hs pl pu (by rw [hlen];exact hw) ?_;refine ⟨.ref a,H,I,rfl,q1 ?_⟩;unfold wL;rw [hw.1,hw.2];simp
 ·exact W5 pins s σ H _ v vl vu lo hi sl Q I rx hs pl pu ⟨a,xs,rfl,hx,hw,q2⟩
end
end L2
namespace HT
open PySem PySem.Spec PyProof.Rows
open Sem (wp)
open Builtin
end HT
namespace L2
open PySem PySem.Spec PyProof.Rows PySem.W
section
variable {X:Cx}
end
section
variable {Γ:xr} {K:PySem.W.Frag}
end
section
variable {Γ:xr} {K:PySem.W.Frag}
end
section
variable {Γ:xr} {K:PySem.W.Frag}
end
section
variable {X:Cx}
theorem Ii (hu:X.A.units + 64 < cLine):g8 X (compareOp .NotEq) (fun x y H Q=>∃d e,RX H d x∧RX H e y∧PySem.SeqAt.shaped d=true∧PySem.SeqAt.shaped e=true∧Q (.bl (!PyData.eqv d e)) H):=by
 intro pins s σ H x y v u Q I rx ry h;obtain ⟨d,e,hd,he,h1,h2,q⟩:=h;obtain ⟨as,ra⟩:=RD.reads I (hd.rd (K:=X.K)) rx;obtain ⟨bs,rb⟩:=RD.reads I (he.rd (K:=X.K)) ry;exact ne_dataH ra rb h1 h2 hu ⟨.bl _,H,I,rfl,q⟩
end
section
variable {Γ:xr} {K:PySem.W.Frag}
def Xo (t:TE) (Γ:xr) (d:PyData):Prop:=∀σ H (Q:VK),oK H Γ σ→(∀v H',bu H H'→RX H' d v→Q v H')→t σ H Q
theorem Bq.r {t:TE} {d:PyData} (h:Bq t Γ d):Xo t Γ d:=fun σ H Q e q=>h.run e q
theorem J7.run {t:TA} {ds:List PyData} (h:J7 t Γ ds) {σ:St} {H:Hp} {Q:List V→Hp→Prop} (e:oK H Γ σ) (q:∀vs H',bu H H'→Ep H' ds vs→Q vs H'):t σ H Q:=
 h [] σ H Q (fun _ m=>by cases m) (by rw [xu];exact e) fun v H' s r=>q v H' s (by rw [xu] at r;exact r)
end
theorem vR {xs:Array Nat} (h:xs.toList.Pairwise (· < ·)) {i k d:Nat} (hik:i < k) (hk:k < xs.size):xs.getD i d < xs.getD k d:=by
 have h1:=List.pairwise_iff_getElem.mp h i k (by simpa using Nat.lt_trans hik hk) (by simpa using hk) hik;have hi:i < xs.size:=Nat.lt_trans hik hk;rw [Array.getD_eq_getD_getElem?,Array.getD_eq_getD_getElem?,Array.getElem?_eq_getElem hk,Array.getElem?_eq_getElem hi];simpa using h1
theorem xx {xs:Array Nat} {j:Nat} (h:xs.toList.Pairwise (· < ·)):∀f lo hi,lo≤hi→hi≤xs.size→hi - lo≤f→(∀i,i < lo→xs.getD i j < j)→(∀i,hi≤i→i < xs.size→j≤xs.getD i j)→
  SetTable.below.go xs j f lo hi≤xs.size∧(∀i,i < SetTable.below.go xs j f lo hi→xs.getD i j < j)∧∀i,SetTable.below.go xs j f lo hi≤i→i < xs.size→j≤xs.getD i j
 | 0,lo,hi,h1,h2,h3,h4,h5=>by
  unfold SetTable.below.go;exact ⟨by omega,h4,fun i a b=>h5 i (by omega) b⟩
 | f + 1,lo,hi,h1,h2,h3,h4,h5=>by
  unfold SetTable.below.go;by_cases hlt:lo < hi
  ·rw [if_pos hlt];dsimp only;by_cases hm:xs.getD ((lo + hi) / 2) j < j
   ·rw [if_pos hm];refine xx h f _ _ (by omega) h2 (by omega) (fun i hi'=>?_) h5;by_cases e:i=(lo + hi) / 2
    ·rw [e];exact hm
    ·exact Nat.lt_trans (vR h (by omega) (by omega)) hm
   ·rw [if_neg hm];refine xx h f _ _ (by omega) (by omega) (by omega) h4 (fun i hi' hs=>?_);by_cases e:i=(lo + hi) / 2
    ·rw [e];omega
    ·have:=vR (d:=j) h (show (lo + hi) / 2 < i by omega) hs;omega
  ·rw [if_neg hlt];exact ⟨by omega,h4,fun i a b=>h5 i (by omega) b⟩
theorem uD {xs:Array Nat} (j:Nat) (h:xs.toList.Pairwise (· < ·)):SetTable.below xs j≤xs.size∧(∀i,i < SetTable.below xs j→xs.getD i j < j)∧∀i,SetTable.below xs j≤i→i < xs.size→j≤xs.getD i j:=
 xx h xs.size 0 xs.size (Nat.zero_le _) (Nat.le_refl _) (by omega) (fun i hi=>by omega) (fun i a b=>by omega)
theorem J8 {xs:Array Nat} (h:xs.toList.Pairwise (· < ·)):SetTable.below xs 0=0:=by
 obtain ⟨_,b,_⟩:=uD 0 h;cases e:SetTable.below xs 0 with
 | zero=>rfl
 | succ n=>have:=b 0 (by omega);omega
theorem xF {xs:Array Nat} (h:xs.toList.Pairwise (· < ·)) {i:Nat} (hi:i < xs.size):SetTable.below xs (xs[i] + 1)=i + 1:=by
 obtain ⟨a,b,c⟩:=uD (xs[i] + 1) h;have e:∀k d,(hk:k < xs.size)→xs.getD k d=xs[k]:=fun k d hk=>by rw [Array.getD_eq_getD_getElem?,Array.getElem?_eq_getElem hk];rfl
 have mono:∀p q,(hp:p < xs.size)→(hq:q < xs.size)→p < q→xs[p] < xs[q]:=fun p q hp hq pq=>by
  have:=vR (d:=0) h pq hq
  rwa [e p 0 hp,e q 0 hq] at this
 by_cases h1:SetTable.below xs (xs[i] + 1)≤i
 ·have:=c i h1 hi;rw [e i _ hi] at this;omega
 ·by_cases h2:SetTable.below xs (xs[i] + 1)=i + 1
  ·exact h2
  ·have hs:i + 1 < xs.size:=by omega
   have:=b (i + 1) (by omega);rw [e _ _ hs] at this;have:=mono i (i + 1) hi hs (by omega);omega
structure jo (b:Bool) (t:SetTable):Prop where
 led:t.led=b
 dum:t.dummies=#[]
 ris:t.place.toList.Pairwise (· < ·)
theorem jo.standIn {b:Bool} {t:SetTable} (h:jo b t) (n:Nat):jo b (t.standIn n):=⟨h.led,rfl,by simpa [SetTable.standIn] using List.pairwise_lt_range⟩
theorem jo.orStandIn {b:Bool} {t:SetTable} (h:jo b t) (n:Nat):jo b (t.orStandIn n):=by
 unfold SetTable.orStandIn;split
 ·exact h
 ·exact h.standIn n
theorem has_none (j:Nat):SetTable.has #[] j=false:=rfl
theorem xG {t:SetTable} (hd:t.dummies=#[]) (f:Nat→Int) (h:Int):∀fuel (p:SetTable.Probe) j d,p.dummy=none→SetTable.probe.go t f h fuel p=some (.empty j d)→d=none∧t.slot j=.empty
 | 0,p,j,d,_,e=>by simp [SetTable.probe.go] at e
 | fuel + 1,p,j,d,hp,e=>by
  unfold SetTable.probe.go at e;have adv:(t.advance p).dummy=none:=by
   unfold SetTable.advance;split <;> exact hp
  cases hs:t.slot p.j with
  | empty=>
   rw [hs] at e;simp only [Option.some.injEq,SetTable.Met.empty.injEq] at e;exact ⟨by rw [←e.2];exact hp,by rw [←e.1];exact hs⟩
  | dummy=>
   unfold SetTable.slot at hs;rw [hd] at hs;simp only [has_none] at hs;split at hs
   ·cases hs
   ·simp at hs
  | live i=>
   rw [hs] at e;simp only at e;split at e
   ·cases e
   ·exact xG hd f h fuel _ j d adv e
theorem Ij {xs:Array Nat} {j:Nat} (h:xs.toList.Pairwise (· < ·)) (hn:xs[SetTable.below xs j]?≠some j):(SetTable.insertAt xs (SetTable.below xs j) j).toList.Pairwise (· < ·):=by
 obtain ⟨a,b,c⟩:=uD j h;rw [SetTable.toList_insertAt];have h':=h;rw [←List.take_append_drop (SetTable.below xs j) xs.toList,List.pairwise_append] at h';obtain ⟨h1,h2,h3⟩:=h';have e:∀k d,(hk:k < xs.size)→xs.getD k d=xs.toList[k]'(by simpa using hk):=fun k d hk=>by rw [Array.getD_eq_getD_getElem?,Array.getElem?_eq_getElem hk];simp
 have lo:∀x,x∈xs.toList.take (SetTable.below xs j)→x < j:=fun x hx=>by
  obtain ⟨i,hi,rfl⟩:=List.getElem_of_mem hx;have hi':i < SetTable.below xs j:=by simp at hi;omega
  have:=b i hi';rw [e i j (by omega)] at this;rw [List.getElem_take];exact this
 have hi:∀x,x∈xs.toList.drop (SetTable.below xs j)→j < x:=fun x hx=>by
  obtain ⟨i,hi,rfl⟩:=List.getElem_of_mem hx;have hs:SetTable.below xs j + i < xs.size:=by simp at hi;omega
  have h0:=c (SetTable.below xs j) (Nat.le_refl _) (by omega);have ne:xs.getD (SetTable.below xs j) j≠j:=fun z=>hn (by
   have hb:SetTable.below xs j < xs.size:=by omega
   rw [Array.getD_eq_getD_getElem?,Array.getElem?_eq_getElem hb] at z;rw [Array.getElem?_eq_getElem hb];simpa using z)
  rw [List.getElem_drop,←e _ j hs];by_cases z:i=0
  ·subst z;simp only [Nat.add_zero];omega
  ·have:=vR (d:=j) h (show SetTable.below xs j < SetTable.below xs j + i by omega) hs;omega
 rw [List.pairwise_append];refine ⟨h1,List.pairwise_cons.mpr ⟨hi,h2⟩,fun x hx y hy=>?_⟩;rcases List.mem_cons.mp hy with rfl | hy
 ·exact lo x hx
 ·exact h3 x hx y hy
theorem jo.layNew {b:Bool} {t:SetTable} (h:jo b t) (es:Array (Int×Value)) (hs:Int) (x:Value):jo b (layNew t es hs x).2.1:=by
 unfold PySem.layNew;cases hf:t.freeSlot hs with
 | none=>exact h.standIn _
 | some q=>
  obtain ⟨slot,wd⟩:=q;have free:t.slot slot=.empty:=by
   unfold SetTable.freeSlot at hf;split at hf
   ·rename_i j d hp;obtain ⟨rfl,hj⟩:=xG h.dum _ _ _ _ _ _ rfl hp;simp only [Option.some.injEq,Prod.mk.injEq] at hf;rw [←hf.1];exact hj
   ·cases hf
  have hn:t.place[SetTable.below t.place slot]?≠some slot:=fun z=>by
   unfold SetTable.slot at free;simp [z] at free
  show jo b ((t.put slot).1.orStandIn _);refine jo.orStandIn (t:=(t.put slot).1) ⟨h.led,?_,Ij h.ris hn⟩ _;show (if SetTable.has t.dummies slot then _ else t.dummies)=#[];rw [h.dum];rfl
theorem jo.relayAll {b:Bool} {t:SetTable} (h:jo b t) (es:Array (Int×Value)) (n:Nat):jo b (relayAll t es n).2.1:=by
 unfold PySem.relayAll;split
 ·rename_i t' order hr;dsimp only;split
  ·unfold SetTable.relaid SetTable.laid at hr;cases ho:SetTable.layClean (SetTable.sizeAbove n - 1) (es.map (·.1)) with
   | none=>simp [ho] at hr
   | some owner=>
    simp only [ho,Option.bind_eq_bind,Option.bind_some,Option.pure_def,Option.some.injEq,Prod.mk.injEq] at hr;rw [←hr.1];refine ⟨h.led,rfl,?_⟩;simp only [List.map_filterMap];refine List.Pairwise.filterMap _ (fun x y hxy=>?_) List.pairwise_lt_range;intro u hu v hv;simp only [Option.map_eq_some_iff] at hu hv;obtain ⟨p,⟨_,_,rfl⟩,rfl⟩:=hu;obtain ⟨q,⟨_,_,rfl⟩,rfl⟩:=hv;exact hxy
  ·exact h.standIn _
 ·exact h.standIn _
theorem jo.plain {b:Bool} {t:SetTable} (h:jo b t) (v:Bool):jo b { t with plain:=v }:=⟨h.led,h.dum,h.ris⟩
theorem jo.fresh (b:Bool):jo b (.fresh 0 0 b):=⟨rfl,rfl,.nil⟩
end L2
namespace L2
open PySem PySem.Spec PySem.W
section
variable {prog:Program} {w:World} {T:Type} [DecidableEq T] (knd:PySem.KeyKind prog w T)
def bt (w:World):Bool:=!(w.params.followText "set-order")
inductive zu:List (Int×Value)→List T→Prop
 | nil:zu [] []
 | cons {e:Int×Value} {k:T} {es:List (Int×Value)} {ks:List T}:(knd.is k e.2=true∧e.1=knd.hash k∧e.2.scannable=true)→zu es ks→zu (e::es) (k::ks)
def rB (h:Heap) (a:Addr) (ks:List T):Prop:=∃o es ep t,h.get? a=some o∧o.ExactSet∧o.data=.set es ep t∧(∃ks',zu knd es.toList ks'∧ks'.Perm ks)∧es.size < scanBound∧t.fits es.size=true∧jo (bt w) t
def mX (ks:List T) (k:T):List T:=if k∈ks then ks else ks++[k]
variable {knd}
theorem zu.elems {es:List (Int×Value)} {ks:List T} (h:zu knd es ks):ElemsOf knd es:=by
 induction h with
 | nil=>intro e he;cases he
 | cons a _ ih=>
  intro e he;rcases List.mem_cons.mp he with rfl | he
  ·exact ⟨⟨_,a.1,a.2.1⟩,a.2.2⟩
  ·exact ih e he
theorem zu.len {es:List (Int×Value)} {ks:List T} (h:zu knd es ks):es.length=ks.length:=by
 induction h with
 | nil=>rfl
 | cons _ _ ih=>simp [ih]
theorem zu.perm {es es':List (Int×Value)} (p:es'.Perm es):∀{ks:List T},zu knd es ks→∃ks',zu knd es' ks'∧ks'.Perm ks:=by
 induction p with
 | nil=>intro ks h;exact ⟨ks,h,.refl _⟩
 | cons x _ ih=>
  intro ks h;cases h with
  | cons a r=>
   obtain ⟨ks',h1,h2⟩:=ih r;exact ⟨_::ks',.cons a h1,h2.cons _⟩
 | swap x y l=>
  intro ks h;cases h with
  | cons a r=>
   cases r with
   | cons b r=>exact ⟨_::_::_,.cons b (.cons a r),.swap ..⟩
 | trans _ _ ih1 ih2=>
  intro ks h;obtain ⟨k2,h1,p1⟩:=ih2 h;obtain ⟨k3,h2,p2⟩:=ih1 h1;exact ⟨k3,h2,p2.trans p1⟩
theorem zu.push {es:List (Int×Value)} {ks:List T} (h:zu knd es ks) {k:T} {x:Value} (hk:knd.is k x=true) (hx:x.scannable=true):zu knd (es++[(knd.hash k,x)]) (ks++[k]):=by
 induction h with
 | nil=>exact .cons ⟨hk,rfl,hx⟩ .nil
 | cons a _ ih=>exact .cons a ih
theorem zu.mem {es:List (Int×Value)} {ks:List T} (h:zu knd es ks) {k:T} {x:Int×Value} (hm:x∈es) (hp:knd.is k x.2=true):k∈ks:=by
 induction h with
 | nil=>cases hm
 | cons a _ ih=>
  rcases List.mem_cons.mp hm with rfl | hm
  ·cases knd.inj _ _ _ hp a.1;exact List.mem_cons_self ..
  ·exact List.mem_cons_of_mem _ (ih hm)
theorem zu.none {es:List (Int×Value)} {ks:List T} (h:zu knd es ks) {k:T} (e:es.findIdx? (fun e=>knd.is k e.2)=.none):k∉ks:=by
 have e':=List.findIdx?_eq_none_iff.mp e;clear e;induction h with
 | nil=>intro h;cases h
 | cons a _ ih=>
  intro hm;rcases List.mem_cons.mp hm with rfl | hm
  ·have:=e' _ (List.mem_cons_self ..);rw [a.1] at this;cases this
  ·exact ih (fun x hx=>e' x (List.mem_cons_of_mem _ hx)) hm
variable {A:Around} {E:Value→Shared→Prop} {s:Shared}
theorem J9 {h:Heap} {a:Addr} {o:Obj} {es es':Array (Int×Value)} {ep:Nat} {t t':SetTable} {ks:List T} (ho:h.get? a=some o) (ex:o.ExactSet) (hd:o.data=.set es ep t) (e:∃ks',zu knd es'.toList ks'∧ks'.Perm ks)
  (hb:es'.size < scanBound) (hf:t'.fits es'.size=true) (tb:jo (bt w) t'):
  ∃o',(h.update a (Obj.putSet es' t')).get? a=some o'∧o'.ExactSet∧o'.data=.set es' (ep + 1) t'∧rB knd (h.update a (Obj.putSet es' t')) a ks:=by
 have g:=Heap.get?_update_self (Obj.putSet es' t') ho (by rw [putSet_of es' t' hd];rfl);rw [putSet_of es' t' hd] at g;exact ⟨_,g,ex,rfl,_,es',ep + 1,t',g,ex,rfl,e,hb,hf,tb⟩
theorem Ua {a:Addr} {k:T} {x:Value} {ks:List T} {Q:Bool→Shared→Prop} (hk:knd.is k x=true) (hx:x.scannable=true) (hS:rB knd s.heap a ks) (room:ks.length + 1 < scanBound)
  (h:∀b h',Heap.SameBut a s.heap h'→rB knd h' a (mX ks k)→Q b { s with heap:=h' }):wpAny (model prog w) A (setAddHashed a x (knd.hash k)) Q E s:=by
 obtain ⟨o,es,ep,t,ho,ex,hd,⟨k0,ek,pk⟩,hb,hf,tb⟩:=hS;have sz:es.size=ks.length:=by rw [←Array.length_toList,ek.len,pk.length_eq]
 have el:=ek.elems;have mono:∀{u:Unit→Shared→Prop} {s1:Shared} (g:Bool),u () s1→∀r:Sem Unit,(r=rule "set.scan.the-table-gave-way"∨r=pure ())→wpAny (model prog w) A r u E s1:=fun g hu r hr=>by
  rcases hr with rfl | rfl
  ·exact wpAny_rule hu
  ·exact wpAny_pure hu
 unfold setAddHashed setAddHashedIn;refine wpAny_holding (wpAny_bind (wpAny_setState_of ho hd hf ?_));simp only [byScan_of hx hb el,if_true];unfold setAddByScan;refine wpAny_bind (wpAny_bind (wpAny_rule (wpAny_bind (wpAny_setScan_of hk ho hd hf el ?_))));cases hr:es.toList.findIdx? (fun e=>knd.is k e.2) with
 | some j=>
  obtain ⟨hj,hp,_⟩:=List.findIdx?_eq_some_iff_getElem.mp hr;have hm:k∈ks:=pk.mem_iff.mp (ek.mem (List.getElem_mem hj) hp);refine wpAny_pure (wpAny_pure (h _ s.heap (Heap.SameBut.refl a s.heap) ?_));rw [mX,if_pos hm];exact ⟨o,es,ep,t,ho,ex,hd,⟨k0,ek,pk⟩,hb,hf,tb⟩
 | none=>
  have hm:k∉ks:=fun z=>ek.none hr (pk.mem_iff.mpr z)
  have pn:=layNew_perm t es (knd.hash k) x;have fn:=layNew_fits t es (knd.hash k) x;have tn:=tb.layNew es (knd.hash k) x;dsimp only;generalize layNew t es (knd.hash k) x=L at pn fn tn ⊢;obtain ⟨es1,t1,wd,gv⟩:=L;dsimp only at pn fn tn ⊢;rw [Array.toList_push] at pn;obtain ⟨k1,e1,p1⟩:=(ek.push hk hx).perm pn;have ak:mX ks k=ks++[k]:=by rw [mX,if_neg hm]
  have q1:∃ks',zu knd es1.toList ks'∧ks'.Perm (mX ks k):=⟨k1,e1,by rw [ak];exact p1.trans (pk.append_right _)⟩
  have VM:es1.size=es.size + 1:=by rw [←Array.length_toList,pn.length_eq,List.length_append,Array.length_toList];rfl
  have b1:es1.size < scanBound:=by omega
  refine wpAny_bind (mono gv ?_ _ (by cases gv <;> first | exact .inl rfl | exact .inr rfl));have tail:∀t2:SetTable,t2.fits es1.size=true→jo (bt w) t2→wpAny (model prog w) A (do
    storeSet a es1 t2
    if (!wd&&t2.tooFull)=true then do
      (match (PySem.relayAll t2 es1 (SetTable.grown es1.size)).2.2 with | true=>rule "set.scan.the-table-gave-way" | false=>pure ())
      storeSet a (PySem.relayAll t2 es1 (SetTable.grown es1.size)).1 (PySem.relayAll t2 es1 (SetTable.grown es1.size)).2.1
      pure (some true)
     else pure (some true)) (fun r s'=>wpAny (model prog w) A (match r with | some added=>pure added | none=>setAddHashedIn a x (knd.hash k) 99999) Q E s') E s:=fun t2 f2 tb2=>by
   obtain ⟨o1,g1,ex1,d1,S1⟩:=J9 (knd:=knd) ho ex hd q1 b1 f2 tb2;refine wpAny_bind (wpAny_storeSet_of ho hd ?_ (fits_of_scanBound b1));have xH:=Heap.SameBut.update s.heap a (Obj.putSet es1 t2);split
   ·have pr:=relayAll_perm t2 es1 (SetTable.grown es1.size);have fr:=relayAll_fits t2 es1 (SetTable.grown es1.size);have tr:=tb2.relayAll es1 (SetTable.grown es1.size);generalize PySem.relayAll t2 es1 (SetTable.grown es1.size)=L2 at pr fr tr ⊢;obtain ⟨es2,t3,gv2⟩:=L2;dsimp only at pr fr tr ⊢;obtain ⟨k2,e2,p2⟩:=q1;obtain ⟨k3,e3,p3⟩:=e2.perm pr;have sz2:es2.size=es1.size:=by rw [←Array.length_toList,pr.length_eq,Array.length_toList]
    have b2:es2.size < scanBound:=by omega
    refine wpAny_bind (mono gv2 ?_ _ (by cases gv2 <;> first | exact .inl rfl | exact .inr rfl));refine wpAny_bind (wpAny_storeSet_of g1 d1 ?_ (fits_of_scanBound b2));obtain ⟨_,_,_,_,S2⟩:=J9 (knd:=knd) g1 ex1 d1 ⟨k3,e3,p3.trans p2⟩ b2 fr tr;exact wpAny_pure (wpAny_pure (h _ _ (xH.trans (Heap.SameBut.update ..)) S2))
   ·exact wpAny_pure (wpAny_pure (h _ _ xH S1))
  split
  ·refine wpAny_bind ?_;rw [hashByValue_scannable 8 hx];refine wpAny_pure ?_;by_cases hv:plainKind x=true
   ·simp only [hv,if_true];exact tail t1 fn tn
   ·simp only [hv,Bool.false_eq_true,if_false];exact tail _ (SetTable.fits_plain_off fn) (tn.plain false)
  ·refine wpAny_bind (wpAny_pure ?_);simp only [if_true];exact tail t1 fn tn
end
section
variable {T:Type} [DecidableEq T]
def dedup (ks:List T):List T:=ks.foldl mX []
theorem Ik (ks:List T) (k:T):dedup (ks++[k])=mX (dedup ks) k:=by simp [dedup,List.foldl_append]
theorem Qc {ks:List T} {k x:T}:x∈mX ks k ↔ x∈ks∨x=k:=by
 unfold mX;split
 ·rename_i h;exact ⟨.inl,fun z=>z.elim id fun e=>e ▸ h⟩
 ·simp
theorem oM {x:T}:∀(ks as:List T),x∈ks.foldl mX as ↔ x∈as∨x∈ks
 | [],as=>by simp
 | k::ks,as=>by rw [List.foldl_cons,oM,Qc,List.mem_cons,or_assoc]
theorem MP {ks:List T} {x:T}:x∈dedup ks ↔ x∈ks:=by
 rw [dedup,oM];simp
theorem Il {ks:List T} {k:T} (h:ks.Nodup):(mX ks k).Nodup:=by
 unfold mX;split
 ·exact h
 ·rename_i hk;exact List.nodup_append.mpr ⟨h,by simp,fun a ha b hb=>by rw [List.mem_singleton] at hb;rintro rfl;exact hk (hb ▸ ha)⟩
theorem mj:∀(ks as:List T),as.Nodup→(ks.foldl mX as).Nodup
 | [],_,h=>h
 | k::ks,_,h=>mj ks _ (Il h)
theorem Er (ks:List T):(dedup ks).Nodup:=mj ks [] .nil
theorem Qd (ks:List T) (k:T):(mX ks k).length≤ks.length + 1:=by
 unfold mX;split <;> simp
theorem oN:∀(ks as:List T),(ks.foldl mX as).length≤as.length + ks.length
 | [],_=>by simp
 | k::ks,as=>by
  have h1:=oN ks (mX as k);have h2:=Qd as k;simp only [List.foldl_cons,List.length_cons];omega
theorem zX (ks:List T):(dedup ks).length≤ks.length:=by simpa [dedup] using oN ks []
end
section
variable {prog:Program} {w:World} {T:Type} [DecidableEq T] {knd:PySem.KeyKind prog w T} {A:Around} {E:Value→Shared→Prop} {s:Shared}
theorem rB.at {h h':Heap} {a:Addr} {ks:List T} (H:rB knd h a ks) (e:∀o,h.get? a=some o→h'.get? a=some o):rB knd h' a ks:=
 let ⟨o,es,ep,t,ho,r⟩:=H
 ⟨o,es,ep,t,e o ho,r⟩
theorem rB.lt {h:Heap} {a:Addr} {ks:List T} (H:rB knd h a ks):a < h.objs.size:=let ⟨_,_,_,_,ho,_⟩:=H;Heap.lt_size ho
theorem rB.ty {a:Addr} {ks:List T} (H:rB knd s.heap a ks):s.TypeIs (.ref a) "set":=let ⟨o,_,_,_,ho,ex,_⟩:=H;⟨o,ho,ex.1⟩
end
section
variable {prog:Program} {w:World} {T:Type} [DecidableEq T] {knd:PySem.KeyKind prog w T} {A:Around} {E:Value→Shared→Prop} {s:Shared}
def vL (w:World):Obj:={ cls:=.type "set",dict:=none,data:=.set #[] 0 (.fresh 0 0 (bt w)) }
theorem Xp {h:Heap} {a:Addr} (g:h.get? a=some (vL w)):rB knd h a []:=⟨_,#[],0,_,g,⟨rfl,rfl,rfl⟩,rfl,⟨[],.nil,.refl _⟩,by decide,rfl,jo.fresh _⟩
end
theorem Es:Manifest.owners.lookup (String.ofList "rotareti_tes".toList.reverse)=some Manifest.sig_set_iterator:=by kernel_rfl
theorem gw:Slot "set_iterator" "__next__" "set_iterator.__next__":=.of (owner:="set_iterator") (n:="__next__") (by rw [typeLookup_type,builtinLookup_eq_fast];kernel_rfl) (by decide +kernel) (by decide +kernel) (by decide +kernel) (by first | exact .inl (by decide +kernel) | exact .inr (by decide +kernel)) (by rw [isSubtype_type];kernel_rfl)
theorem Ka:Slot "set_iterator" "__iter__" "set_iterator.__iter__":=.of (owner:="set_iterator") (n:="__iter__") (by rw [typeLookup_type,builtinLookup_eq_fast];kernel_rfl) (by decide +kernel) (by decide +kernel) (by decide +kernel) (by first | exact .inl (by decide +kernel) | exact .inr (by decide +kernel)) (by rw [isSubtype_type];kernel_rfl)
theorem p6:entryFor table "set_iterator.__next__"=some Builtin.«set_iterator.__next__»:=entryFor_of_tree (by kernel_rfl)
theorem MT:entryFor table "set_iterator.__iter__"=some Builtin.«dict_keyiterator.__iter__»:=entryFor_alias (id':="dict_keyiterator.__iter__") (by kernel_rfl) rfl (by decide +kernel) (by kernel_rfl)
theorem Im:entryFor table "set.__iter__"=some Builtin.«frozenset.__iter__»:=entryFor_alias (id':="frozenset.__iter__") (by kernel_rfl) rfl (by decide +kernel) (by kernel_rfl)
theorem p7 (a:Value):argsOk "set_iterator.__next__" ⟨[a],[]⟩:=by
 unfold argsOk;rw [signature?_of (id:="set_iterator.__next__") (n:="__txen__".toList) (o:="rotareti_tes".toList) (by kernel_rfl) Es];kernel_rfl
theorem M3 (a:Value):argsOk "set_iterator.__iter__" ⟨[a],[]⟩:=by
 unfold argsOk;rw [signature?_of (id:="set_iterator.__iter__") (n:="__reti__".toList) (o:="rotareti_tes".toList) (by kernel_rfl) Es];kernel_rfl
section
variable {prog:Program} {w:World} {A:Around} {E:Value→Shared→Prop} {s:Shared} {it S:Addr} {es:Array (Int×Value)} {ep i n:Nat} {t:SetTable} {first:Value}
def oO (b:Bool) (h:Heap) (a:Addr) (es:Array (Int×Value)) (ep:Nat) (t:SetTable):Prop:=∃o,h.get? a=some o∧o.ExactSet∧o.data=.set es ep t∧t.fits es.size=true∧jo b t
theorem oO.at {b:Bool} {h h':Heap} {a:Addr} (H:oO b h a es ep t) (e:∀o,h.get? a=some o→h'.get? a=some o):oO b h' a es ep t:=let ⟨o,ho,r⟩:=H;⟨o,e o ho,r⟩
def zY (h:Heap) (it S:Addr) (first:Value) (i n ep:Nat):Prop:=∃o,h.get? it=some o∧o.cls=.type "set_iterator"∧o.data=.fields #[first,rawInt i,.ref S,rawInt n,rawInt ep]
theorem zY.at {h h':Heap} (H:zY h it S first i n ep) (e:∀o,h.get? it=some o→h'.get? it=some o):zY h' it S first i n ep:=let ⟨o,ho,r⟩:=H;⟨o,e o ho,r⟩
theorem zY.ty (H:zY s.heap it S first i n ep):s.TypeIs (.ref it) "set_iterator":=let ⟨o,ho,c,_⟩:=H;⟨o,ho,c⟩
theorem zY.set {h:Heap} {j:Nat} {x:Value} {vs:Array Value} {o:Obj} (ho:h.get? it=some o) (hc:o.cls=.type "set_iterator") (hd:o.data=.fields vs):
  ∃o',(h.update it (Obj.mapFields (·.setIfInBounds j x))).get? it=some o'∧o'.cls=.type "set_iterator"∧o'.data=.fields (vs.setIfInBounds j x):=
 ⟨_,Heap.get?_update_self _ ho (Obj.isFreed_of_fields (Obj.data_mapFields hd _)),(Obj.cls_mapFields ..).trans hc,by rw [Obj.data_mapFields hd]⟩
theorem Br {Q:Value→Shared→Prop} (hit:zY s.heap it S first i n ep) (h:Q (.ref it) s):wpAny (model prog w) A (pyIter (.ref it)) Q E s:=by
 refine wpAny_pyIter_slot hit.ty Ka (wpAny_call_entry Ka hit.ty MT (show wpAny _ _ (ret (.ref it)) _ _ s from ?_) (M3 _));exact wpAny_pure ⟨_,rfl,"set_iterator",_,hit.ty,gw.lookup,h⟩
theorem Kc {Q:Option Value→Shared→Prop} {slot:Nat} {R:Option (Value×Nat)} (hit:zY s.heap it S (rawInt slot) i n ep) (hs:oO (bt w) s.heap S es ep t) (hn:n=es.size) (ne:S≠it)
  (nx:∀{B:Around} {E':Value→Shared→Prop} {C:Option (Value×Nat)→Shared→Prop},C R s→wpAny (model prog w) B (setNext S slot i ep) C E' s) {x:Value} {nxt:Nat} (hR:R=some (x,nxt))
  (h:∀h',zY h' it S (rawInt nxt) (i + 1) n ep→Heap.SameBut it s.heap h'→Q (some x) { s with heap:=h' }):wpAny (model prog w) A (pyNext (.ref it)) Q E s:=by
 obtain ⟨o,ho,hc,hd⟩:=id hit;obtain ⟨os,hos,exs,hds,hf,tb⟩:=id hs;unfold pyNext;refine wpAny_bind (wpAny_attempt (wpAny_callSpecial?_slot (name:=Str.ofString "__next__") hit.ty gw (wpAny_call_entry gw hit.ty p6 ?_ (p7 _))));unfold Builtin.«set_iterator.__next__»;refine wpAny_bind (wpAny_pure (wpAny_bind (wpAny_fieldsOf ho hd ?_)));dsimp only [rawInt];refine wpAny_bind (wpAny_setEntries_of hos hds hf ?_);subst hn;subst hR;rw [if_neg (by simp)];refine wpAny_bind (nx ?_);dsimp only;refine wpAny_bind (wpAny_setField ho hd (by simp) ?_);obtain ⟨o1,g1,c1,d1⟩:=zY.set (j:=0) (x:=.int nxt 0) ho hc hd;refine wpAny_bind (wpAny_setField g1 d1 (by simp) ?_);obtain ⟨o2,g2,c2,d2⟩:=zY.set (j:=1) (x:=.int (i + 1) 0) g1 c1 d1;refine wpAny_pure ⟨_,rfl,wpAny_pure (h _ ⟨o2,g2,c2,?_⟩ ((Heap.SameBut.update ..).trans (Heap.SameBut.update ..)))⟩;rw [d2];simp [rawInt]
theorem Kd {Q:Option Value→Shared→Prop} {s':Shared} (hh:A.handled=none) (h:∀h',(∀b o,s'.heap.get? b=some o→h'.get? b=some o)→Q none { s' with heap:=h' }):
  wpAny (model prog w) A.in1 (do let e ←newExc (.type "StopIteration") [];(raiseNew e:Sem Fin)) (fun fin s1=>∃v,fin=Fin.done (Flow.ret v)∧wpAny (model prog w) A (pure (some v)) Q E s1)
   (fun e s1=>wpAny (model prog w) A (do if (←isInstance e (Value.type "StopIteration"))=true then pure none else throw e) Q E s1) s':=by
 refine wpAny_bind ?_;simp only [newExc,newTuple];refine wpAny_bind (wpAny_newObj_type ?_ (by size_fits));refine wpAny_bind (m:=firstArgMember _ _) (wpAny_of_eq (a:=Value.none) (by first | rfl | (simp only [firstArgMember];rfl)) ?_);refine wpAny_newObj_type ?_ (by size_fits);simp only [raiseNew];refine wpAny_bind (wpAny_handled ?_);rw [show A.in1.handled=none from hh];refine wpAny_bind (wpAny_pure (wpAny_throw ?_));refine wpAny_bind (wpAny_isInstance (T:="StopIteration") (b:=true) ⟨_,Heap.get?_push_size _ rfl,rfl⟩ isSubtype_stop ?_);exact wpAny_pure (h _ fun b o e=>Heap.get?_push_of_some _ (Heap.get?_push_of_some _ e))
theorem Qe {Q:Option Value→Shared→Prop} {slot:Nat} (hh:A.handled=none) (hit:zY s.heap it S (rawInt slot) i n ep) (hs:oO (bt w) s.heap S es ep t) (hn:n=es.size)
  (nx:∀{B:Around} {E':Value→Shared→Prop} {C:Option (Value×Nat)→Shared→Prop},C none s→wpAny (model prog w) B (setNext S slot i ep) C E' s)
  (h:∀h',(∀b o,b≠it→s.heap.get? b=some o→h'.get? b=some o)→Q none { s with heap:=h' }):wpAny (model prog w) A (pyNext (.ref it)) Q E s:=by
 obtain ⟨o,ho,hc,hd⟩:=id hit;obtain ⟨os,hos,exs,hds,hf,tb⟩:=id hs;unfold pyNext;refine wpAny_bind (wpAny_attempt (wpAny_callSpecial?_slot (name:=Str.ofString "__next__") hit.ty gw (wpAny_call_entry gw hit.ty p6 ?_ (p7 _))));unfold Builtin.«set_iterator.__next__»;refine wpAny_bind (wpAny_pure (wpAny_bind (wpAny_fieldsOf ho hd ?_)));dsimp only [rawInt];refine wpAny_bind (wpAny_setEntries_of hos hds hf ?_);subst hn;rw [if_neg (by simp)];refine wpAny_bind (nx ?_);dsimp only;refine wpAny_bind (wpAny_setField ho hd (by simp) ?_);exact Kd hh fun h' kk=>h h' fun b o hb e=>kk b o (((Heap.SameBut.update ..).2 b hb).trans e)
end
section
variable {prog:Program} {w:World} {A:Around} {E:Value→Shared→Prop} {s:Shared} {it S:Addr} {es:Array (Int×Value)} {ep i n:Nat} {t:SetTable} {first:Value}
theorem vU {Q:Bool→Shared→Prop} (h:Q (!bt w) s):wpAny (model prog w) A setsByText Q E s:=by
 unfold setsByText;refine wpAny_bind (wpAny_askSetting (wpAny_pure ?_));have h':Q (w.params.followText "set-order") s:=by simpa [bt] using h
 exact h'
theorem rC {α:Type}:∀{l:List α} {j:Nat} (h:j < l.length),(l[j]::l.eraseIdx j).Perm l
 | [],j,h=>by cases h
 | a::l,0,h=>.refl _
 | a::l,j + 1,h=>by
  have:=rC (l:=l) (j:=j) (by simpa using h);simp only [List.getElem_cons_succ,List.eraseIdx_cons_succ];exact (List.Perm.swap ..).trans (this.cons a)
theorem zZ {C:Option (Value×Nat)→Shared→Prop} {slot:Nat} (hs:oO (bt w) s.heap S es ep t) (hb:bt w=true) (nd:(!t.plain&&decide (es.size > 1))=false)
  (h:C (match es[SetTable.below t.place slot]?,t.place[SetTable.below t.place slot]? with | some (_,x),some j=>some (x,j + 1) | _,_=>none) s):wpAny (model prog w) A (setNext S slot i ep) C E s:=by
 obtain ⟨o,ho,ex,hd,hf,tb⟩:=hs;unfold setNext;refine wpAny_bind (wpAny_setState_of ho hd hf ?_);refine wpAny_bind (vU ?_);rw [hb];simp only [Bool.not_true,Bool.false_eq_true,if_false];refine wpAny_ite_split (fun z=>?_) (fun _=>?_)
 ·have z':(!t.plain&&decide (es.size > 1))=true:=z;rw [nd] at z';cases z'
 refine wpAny_bind (show wpAny _ _ (if (!t.led&&!es.isEmpty)=true then _ else _) _ _ _ from ?_);rw [tb.led,hb];simp only [Bool.not_true,Bool.false_and,Bool.false_eq_true,if_false];exact wpAny_pure (wpAny_pure h)
theorem z6 {C:Option (Value×Nat)→Shared→Prop} {slot:Nat} (hs:oO (bt w) s.heap S es ep t) (hb:bt w=false)
  (h:C (((pickOrder (w.params.setOrder S ep) es)[i]?).map fun e=>(e.2,slot)) s):wpAny (model prog w) A (setNext S slot i ep) C E s:=by
 obtain ⟨o,ho,ex,hd,hf,tb⟩:=hs;unfold setNext;refine wpAny_bind (wpAny_setState_of ho hd hf ?_);refine wpAny_bind (vU ?_);rw [hb];simp only [Bool.not_false,if_true,bne_self_eq_false,Bool.false_eq_true,if_false];refine wpAny_bind ?_;unfold setWalk;refine wpAny_bind (wpAny_setState_of ho hd hf ?_);refine wpAny_bind (vU ?_);rw [hb];simp only [Bool.not_false,if_true];refine wpAny_bind (wpAny_askSetting (wpAny_pure ?_));exact wpAny_pure h
theorem Ke {α:Type} (f:Nat→Nat):∀(m k:Nat) (left:List α) (out:Array α),left.length=m→(pickOrder.go f m k left out).toList.Perm (out.toList++left)
 | 0,k,left,out,h=>by
  unfold pickOrder.go;rw [List.length_eq_zero_iff.mp h];simp
 | m + 1,k,left,out,h=>by
  unfold pickOrder.go;have hl:f k % left.length < left.length:=Nat.mod_lt _ (by omega);rw [List.getElem?_eq_getElem hl];dsimp only;refine (Ke f m (k + 1) _ _ (by rw [List.length_eraseIdx];simp [hl];omega)).trans ?_;rw [Array.toList_push,List.append_assoc];refine List.Perm.append_left _ ?_;exact rC hl
theorem uE {α:Type} (f:Nat→Nat) (xs:Array α):(pickOrder f xs).toList.Perm xs.toList:=by
 have:=Ke f xs.size 0 xs.toList #[] (by simp);simpa [pickOrder] using this
theorem Qf {src:Source} {m:Nat} {Q:Nat→Shared→Prop} (hm:m≠0) (h:∀j d,j < m→Q j { s with drawn:=d }):wpAny (model prog w) A (choose src m) Q E s:=fun Γ p _=>⟨hm,h _ _ (Nat.mod_lt _ (Nat.pos_of_ne_zero hm))⟩
theorem Et {α:Type}:∀(m:Nat) (xs:List α) (s:Shared) (Q:List α→Shared→Prop),xs.length=m→(∀ys d,ys.Perm xs→Q ys { s with drawn:=d })→wpAny (model prog w) A (drawOrder m xs) Q E s
 | 0,xs,s,Q,hl,h=>by
  unfold drawOrder;rw [List.length_eq_zero_iff.mp hl] at h;exact wpAny_pure (h [] s.drawn (.refl _))
 | m + 1,[],s,Q,hl,h=>by cases hl
 | m + 1,x::xs,s,Q,hl,h=>by
  unfold drawOrder;refine wpAny_bind (Qf (by simp) fun j d hj=>?_);rw [List.getElem?_eq_getElem hj];dsimp only;refine wpAny_bind (Et m _ _ _ (by rw [List.length_eraseIdx,if_pos hj];simpa using hl) fun ys d' hp=>?_);exact wpAny_pure (h _ d' ((hp.cons _).trans (rC hj)))
end
section
variable {prog:Program} {w:World} {A:Around} {E:Value→Shared→Prop} {s:Shared} {it S pl:Addr} {es:Array (Int×Value)} {ep i n:Nat} {t:SetTable} {ps:List Nat}
def Yy (h:Heap) (pl:Addr) (ps:List Nat):Prop:=∃o c,h.get? pl=some o∧o.data=.seq (ps.map fun k:Nat=>rawInt k).toArray c
theorem Yy.at {h h':Heap} (H:Yy h pl ps) (e:∀o,h.get? pl=some o→h'.get? pl=some o):Yy h' pl ps:=let ⟨o,c,ho,r⟩:=H;⟨o,c,e o ho,r⟩
theorem Ub {Q:Option Value→Shared→Prop} {k:Nat} {e:Int×Value} (hit:zY s.heap it S (.ref pl) i n ep) (hs:oO (bt w) s.heap S es ep t) (hp:Yy s.heap pl ps) (hn:n=es.size) (hk:ps[i]?=some k) (he:es[k]?=some e)
  (h:∀h',zY h' it S (.ref pl) (i + 1) n ep→Heap.SameBut it s.heap h'→Q (some e.2) { s with heap:=h' }):wpAny (model prog w) A (pyNext (.ref it)) Q E s:=by
 obtain ⟨o,ho,hc,hd⟩:=id hit;obtain ⟨os,hos,exs,hds,hf,tb⟩:=id hs;obtain ⟨op,cp,hop,hdp⟩:=hp;unfold pyNext;refine wpAny_bind (wpAny_attempt (wpAny_callSpecial?_slot (name:=Str.ofString "__next__") hit.ty gw (wpAny_call_entry gw hit.ty p6 ?_ (p7 _))));unfold Builtin.«set_iterator.__next__»;refine wpAny_bind (wpAny_pure (wpAny_bind (wpAny_fieldsOf ho hd ?_)));dsimp only [rawInt];refine wpAny_bind (wpAny_setEntries_of hos hds hf ?_);subst hn;rw [if_neg (by simp)];refine wpAny_bind (wpAny_seqItems hop hdp ?_);dsimp only;rw [show ((ps.map fun k:Nat=>rawInt k).toArray)[((i:Int)).toNat]?=some (.int (k:Int) 0) by simp [hk,rawInt]];dsimp only;refine wpAny_bind ?_;unfold setNextDrawn;refine wpAny_bind (wpAny_setState_of hos hds hf ?_);simp only [Int.toNat_natCast,bne_self_eq_false,Bool.false_eq_true,if_false,he];refine wpAny_pure (wpAny_bind (wpAny_setField ho hd (by simp) ?_));obtain ⟨o1,g1,c1,d1⟩:=zY.set (j:=1) (x:=.int (i + 1) 0) ho hc hd;refine wpAny_pure ⟨_,rfl,wpAny_pure (h _ ⟨o1,g1,c1,?_⟩ (Heap.SameBut.update ..))⟩;rw [d1];simp [rawInt]
theorem Xq {Q:Option Value→Shared→Prop} (hh:A.handled=none) (hit:zY s.heap it S (.ref pl) i n ep) (hs:oO (bt w) s.heap S es ep t) (hp:Yy s.heap pl ps) (hn:n=es.size) (hk:ps.length≤i)
  (h:∀h',(∀b o,b≠it→s.heap.get? b=some o→h'.get? b=some o)→Q none { s with heap:=h' }):wpAny (model prog w) A (pyNext (.ref it)) Q E s:=by
 obtain ⟨o,ho,hc,hd⟩:=id hit;obtain ⟨os,hos,exs,hds,hf,tb⟩:=id hs;obtain ⟨op,cp,hop,hdp⟩:=hp;unfold pyNext;refine wpAny_bind (wpAny_attempt (wpAny_callSpecial?_slot (name:=Str.ofString "__next__") hit.ty gw (wpAny_call_entry gw hit.ty p6 ?_ (p7 _))));unfold Builtin.«set_iterator.__next__»;refine wpAny_bind (wpAny_pure (wpAny_bind (wpAny_fieldsOf ho hd ?_)));dsimp only [rawInt];refine wpAny_bind (wpAny_setEntries_of hos hds hf ?_);subst hn;rw [if_neg (by simp)];refine wpAny_bind (wpAny_seqItems hop hdp ?_);dsimp only;rw [show ((ps.map fun k:Nat=>rawInt k).toArray)[((i:Int)).toNat]?=none by simp [hk]];dsimp only;refine wpAny_bind (wpAny_setField ho hd (by simp) ?_);obtain ⟨o1,g1,c1,d1⟩:=zY.set (j:=0) (x:=.int 0 0) ho hc hd;refine wpAny_bind (wpAny_setField g1 d1 (by simp) ?_);exact Kd hh fun h' kk=>h h' fun b o hb e=>kk b o ((((Heap.SameBut.update ..).trans (Heap.SameBut.update ..)).2 b hb).trans e)
theorem M4 (hh:A.handled=none) (ne:S≠it) (hb:bt w=true) (nd:(!t.plain&&decide (es.size > 1))=false) (hz:t.place.size=es.size) (rs:t.place.toList.Pairwise (· < ·)):
  Walks prog w A it [it,S] [it] es.size (fun i v=>(es.toList.map (·.2))[i]?=some v) (fun i h=>zY h it S (rawInt (if i=0 then 0 else t.place.getD (i - 1) 0 + 1:Nat)) i es.size ep∧oO (bt w) h S es ep t) where
 sub:=fun b hb=>by simp at hb;simp [hb]
 frame:=fun _ _ _ st hk=>⟨st.1.at fun o e=>hk it (by simp) o e,st.2.at fun o e=>hk S (by simp) o e⟩
 item:=fun i s Q E hi st hQ=>by
  have hp:i < t.place.size:=by omega
  have bl:SetTable.below t.place (if i=0 then 0 else t.place.getD (i - 1) 0 + 1)=i:=by
   by_cases z:i=0
   ·subst z;exact J8 rs
   ·rw [if_neg z];have h1:i - 1 < t.place.size:=by omega
    have:=xF rs h1;rw [Array.getD_eq_getD_getElem?,Array.getElem?_eq_getElem h1,Option.getD_some,this];omega
  refine Kc (R:=some (es[i].2,t.place[i] + 1)) st.1 st.2 rfl ne (fun c=>zZ st.2 hb nd ?_) rfl fun h' hit' same=>hQ _ h' s.toks (by simp [hi]) ⟨?_,st.2.at fun o e=>(same.2 S ne).trans e⟩ fun b o hb e=>(same.2 b fun z=>hb (by simp [z])).trans e
  ·rw [bl,Array.getElem?_eq_getElem hi,Array.getElem?_eq_getElem hp];exact c
  ·have e1:(if i + 1=0 then 0 else t.place.getD (i + 1 - 1) 0 + 1)=t.place[i] + 1:=by
    rw [if_neg (by omega),Nat.add_sub_cancel,Array.getD_eq_getD_getElem?,Array.getElem?_eq_getElem hp,Option.getD_some]
   rw [e1];exact hit'
 done:=fun s Q E st hQ=>by
  have bl:SetTable.below t.place (if es.size=0 then 0 else t.place.getD (es.size - 1) 0 + 1)=es.size:=by
   by_cases z:es.size=0
   ·rw [if_pos z,z];exact J8 rs
   ·rw [if_neg z];have h1:es.size - 1 < t.place.size:=by omega
    have:=xF rs h1;rw [Array.getD_eq_getD_getElem?,Array.getElem?_eq_getElem h1,Option.getD_some,this];omega
  refine Qe hh st.1 st.2 rfl (fun c=>zZ st.2 hb nd ?_) fun h' kk=>hQ h' s.toks fun b o hb e=>kk b o (fun z=>hb (by simp [z])) e
  rw [bl,Array.getElem?_eq_none (Nat.le_refl _)];exact c
 self:=fun _ _ _ _ st hQ=>Br st.1 hQ
theorem M5 (hh:A.handled=none) (ne:S≠it) (hb:bt w=false):
  Walks prog w A it [it,S] [it] es.size (fun i v=>((pickOrder (w.params.setOrder S ep) es).toList.map (·.2))[i]?=some v) (fun i h=>zY h it S (rawInt (0:Nat)) i es.size ep∧oO (bt w) h S es ep t) where
 sub:=fun b hb=>by simp at hb;simp [hb]
 frame:=fun _ _ _ st hk=>⟨st.1.at fun o e=>hk it (by simp) o e,st.2.at fun o e=>hk S (by simp) o e⟩
 item:=fun i s Q E hi st hQ=>by
  have hl:(pickOrder (w.params.setOrder S ep) es).size=es.size:=by rw [←Array.length_toList,(uE _ es).length_eq,Array.length_toList]
  have hp:i < (pickOrder (w.params.setOrder S ep) es).size:=by omega
  refine Kc (R:=some ((pickOrder (w.params.setOrder S ep) es)[i].2,0)) st.1 st.2 rfl ne (fun c=>z6 st.2 hb ?_) rfl fun h' hit' same=>hQ _ h' s.toks (by simp [hp]) ⟨hit',st.2.at fun o e=>(same.2 S ne).trans e⟩ fun b o hb e=>(same.2 b fun z=>hb (by simp [z])).trans e
  rw [Array.getElem?_eq_getElem hp];exact c
 done:=fun s Q E st hQ=>by
  have hl:(pickOrder (w.params.setOrder S ep) es).size=es.size:=by rw [←Array.length_toList,(uE _ es).length_eq,Array.length_toList]
  refine Qe hh st.1 st.2 rfl (fun c=>z6 st.2 hb ?_) fun h' kk=>hQ h' s.toks fun b o hb e=>kk b o (fun z=>hb (by simp [z])) e
  rw [Array.getElem?_eq_none (by omega)];exact c
 self:=fun _ _ _ _ st hQ=>Br st.1 hQ
theorem Io (hh:A.handled=none) (ne:S≠it) (np:pl≠it) (pp:ps.Perm (List.range es.size)):
  Walks prog w A it [it,S,pl] [it] es.size (fun i v=>(ps.map fun k=>(es.getD k (0,.none)).2)[i]?=some v) (fun i h=>zY h it S (.ref pl) i es.size ep∧oO (bt w) h S es ep t∧Yy h pl ps) where
 sub:=fun b hb=>by simp at hb;simp [hb]
 frame:=fun _ _ _ st hk=>⟨st.1.at fun o e=>hk it (by simp) o e,st.2.1.at fun o e=>hk S (by simp) o e,st.2.2.at fun o e=>hk pl (by simp) o e⟩
 item:=fun i s Q E hi st hQ=>by
  have hl:ps.length=es.size:=by rw [pp.length_eq,List.length_range]
  have hp:i < ps.length:=by omega
  have hk:ps[i] < es.size:=List.mem_range.mp (pp.mem_iff.mp (List.getElem_mem hp));refine Ub (k:=ps[i]) (e:=es[ps[i]]) st.1 st.2.1 st.2.2 rfl (List.getElem?_eq_getElem hp) (Array.getElem?_eq_getElem hk) fun h' hit' same=>hQ _ h' s.toks ?_ ⟨hit',st.2.1.at fun o e=>(same.2 S ne).trans e,st.2.2.at fun o e=>(same.2 pl np).trans e⟩ fun b o hb e=>(same.2 b fun z=>hb (by simp [z])).trans e
  rw [List.getElem?_map,List.getElem?_eq_getElem hp,Option.map_some,Array.getD_eq_getD_getElem?,Array.getElem?_eq_getElem hk];rfl
 done:=fun s Q E st hQ=>by
  have hl:ps.length=es.size:=by rw [pp.length_eq,List.length_range]
  exact Xq hh st.1 st.2.1 st.2.2 rfl (by omega) fun h' kk=>hQ h' s.toks fun b o hb e=>kk b o (fun z=>hb (by simp [z])) e
 self:=fun _ _ _ _ st hQ=>Br st.1 hQ
end
section
variable {prog:Program} {w:World} {A:Around} {E:Value→Shared→Prop} {s:Shared} {S:Addr} {es:Array (Int×Value)} {ep:Nat} {t:SetTable}
theorem M6 {Q:Bool→Shared→Prop} (hs:oO (bt w) s.heap S es ep t) (h:Q (bt w&&(!t.plain&&decide (es.size > 1))) s):wpAny (model prog w) A (setDrawn S) Q E s:=by
 obtain ⟨os,hos,exs,hds,hf,tb⟩:=id hs;unfold setDrawn;refine wpAny_bind (wpAny_setState_of hos hds hf ?_);refine wpAny_bind (vU (wpAny_pure ?_));rw [Bool.not_not];exact h
theorem Qg {Q:Value→Shared→Prop} (hh:A.handled=none) (hs:oO (bt w) s.heap S es ep t) (hb:es.size < scanBound)
  (h:∀(I:Addr) (h1:Heap) (d:Drawn) (fp:List Addr) (out:List Value) (St:Nat→Heap→Prop),Walks prog w A I fp [I] es.size (fun i v=>out[i]?=some v) St→St 0 h1→out.Perm (es.toList.map (·.2))→(∀b o,s.heap.get? b=some o→h1.get? b=some o)→s.heap.objs.size≤I→
   (∀b∈fp,b=S∨s.heap.objs.size≤b)→Q (.ref I) { s with heap:=h1,drawn:=d }):wpAny (model prog w) A (pyIter (.ref S)) Q E s:=by
 obtain ⟨os,hos,exs,hds,hf,tb⟩:=id hs;have hT:s.TypeIs (.ref S) "set":=⟨os,hos,exs.1⟩
 have lt:S < s.heap.objs.size:=Heap.lt_size hos;have hz:t.place.size=es.size:=by
  have:=hf;simp only [SetTable.fits,Bool.and_eq_true,beq_iff_eq] at this;exact this.1
 refine wpAny_pyIter_slot hT F.slot_set_iter (wpAny_call_entry F.slot_set_iter hT Im ?_ (F.args_set_iter_1 _));unfold Builtin.«frozenset.__iter__» Builtin.Frozenset.slot0 Builtin.Frozenset.sizeOf;refine wpAny_bind (wpAny_bind (wpAny_pure (wpAny_pure ?_)));refine wpAny_bind (wpAny_bind (wpAny_setEntries_of hos hds hf (wpAny_pure ?_)));refine wpAny_bind (M6 hs ?_);by_cases hd:(bt w&&(!t.plain&&decide (es.size > 1)))=true
 ·rw [if_pos hd];refine wpAny_bind (Et _ _ _ _ (List.length_range ..) fun ps d pp=>?_);have pl:ps.length=es.size:=by rw [pp.length_eq,List.length_range]
  unfold newTuple;refine wpAny_bind (wpAny_newObj_type ?_ (show (List.map (fun i:Nat=>rawInt i) ps).toArray.size≤sizeLine by rw [List.size_toArray,List.length_map,pl,sizeLine_eq];unfold scanBound at hb;omega));have g1:(s.heap.push { cls:=.type "tuple",data:=.seq (ps.map fun k:Nat=>rawInt k).toArray }).get? S=some os:=Heap.get?_push_of_some _ hos;refine wpAny_bind (wpAny_setEpoch_of (s:={ s with heap:=s.heap.push _,drawn:=d }) g1 hds hf ?_);refine wpAny_bind ?_;unfold newFields;refine wpAny_newObj_type ?_;refine wpAny_pure ⟨_,rfl,"set_iterator",_,⟨_,Heap.get?_push_size _ rfl,rfl⟩,gw.lookup,?_⟩;have VM:(s.heap.push { cls:=.type "tuple",data:=.seq (ps.map fun k:Nat=>rawInt k).toArray }).objs.size=s.heap.objs.size + 1:=Heap.size_push ..;refine h _ _ d [_,S,s.heap.objs.size] _ _ (Io (ep:=ep) (t:=t) hh ?_ ?_ pp) ⟨⟨_,Heap.get?_push_size _ rfl,rfl,rfl⟩,⟨os,Heap.get?_push_of_some _ g1,exs,hds,hf,tb⟩,⟨_,0,Heap.get?_push_of_some _ (Heap.get?_push_size _ rfl),rfl⟩⟩ ?_ (fun b o e=>Heap.get?_push_of_some _ (Heap.get?_push_of_some _ e)) ?_ ?_
  ·rw [VM];exact Nat.ne_of_lt (Nat.lt_succ_of_lt lt)
  ·rw [VM];exact Nat.ne_of_lt (Nat.lt_succ_self _)
  ·have e2:(List.range es.size).map (fun k=>(es.getD k (0,Value.none)).2)=es.toList.map (·.2):=by
    refine List.ext_getElem (by simp) fun j h1 h2=>?_
    have hj:j < es.size:=by simpa using h1
    simp [Array.getD_eq_getD_getElem?,Array.getElem?_eq_getElem hj]
   rw [←e2];exact pp.map _
  ·rw [VM];exact Nat.le_succ _
  ·intro b hb';simp only [List.mem_cons,List.not_mem_nil,or_false] at hb';rcases hb' with rfl | rfl | rfl
   ·right;rw [VM];exact Nat.le_succ _
   ·exact .inl rfl
   ·exact .inr (Nat.le_refl _)
 ·rw [if_neg hd];refine wpAny_bind (wpAny_pure ?_);refine wpAny_bind (wpAny_setEpoch_of hos hds hf ?_);refine wpAny_bind ?_;unfold newFields;refine wpAny_newObj_type ?_;refine wpAny_pure ⟨_,rfl,"set_iterator",_,⟨_,Heap.get?_push_size _ rfl,rfl⟩,gw.lookup,?_⟩;have ZQ:∀b,b∈[s.heap.objs.size,S]→b=S∨s.heap.objs.size≤b:=fun b hb'=>by
   simp only [List.mem_cons,List.not_mem_nil,or_false] at hb';rcases hb' with rfl | rfl
   ·exact .inr (Nat.le_refl _)
   ·exact .inl rfl
  cases hbt:bt w with
  | true=>
   rw [hbt] at hd;have nd:(!t.plain&&decide (es.size > 1))=false:=by simpa using hd
   exact h _ _ s.drawn [_,S] _ _ (M4 (ep:=ep) hh (Nat.ne_of_lt lt) hbt nd hz tb.ris) ⟨⟨_,Heap.get?_push_size _ rfl,rfl,rfl⟩,⟨os,Heap.get?_push_of_some _ hos,exs,hds,hf,tb⟩⟩ (.refl _) (fun b o e=>Heap.get?_push_of_some _ e) (Nat.le_refl _) ZQ
  | false=>
   exact h _ _ s.drawn [_,S] _ _ (M5 (ep:=ep) (t:=t) hh (Nat.ne_of_lt lt) hbt) ⟨⟨_,Heap.get?_push_size _ rfl,rfl,rfl⟩,⟨os,Heap.get?_push_of_some _ hos,exs,hds,hf,tb⟩⟩ ((uE _ es).map _) (fun b o e=>Heap.get?_push_of_some _ e) (Nat.le_refl _) ZQ
end
end L2
namespace L2
open PySem PySem.Spec PySem.W PyProof.Rows
section
variable {prog:Program} {w:World} {A:Around} {E:Value→Shared→Prop} {s:Shared} {S:Addr} {es:Array (Int×Value)} {ep:Nat} {t:SetTable}
theorem Qh {Q:Bool→Shared→Prop} (hT:s.TypeIs (.ref S) "set") (h:Q false s):wpAny (model prog w) A (Builtin.List.listLengthHint (.ref S)) Q E s:=by
 unfold Builtin.List.listLengthHint;refine wpAny_bind (wpAny_specialOf hT PySem.F.slot_set_len.lookup ?_);generalize hid:("set.__len__":String)=nm
 wp_delta
 rw [show splitId nm=some ("set","__len__") by subst hid;decide +kernel];subst hid;refine wpAny_bind (wpAny_isInstance (T:="set") (b:=true) hT (by rw [isSubtype_type];kernel_rfl) ?_);refine wpAny_ite_split (fun z=>absurd z (by decide)) fun _=>wpAny_ite_split (fun _=>?_) fun z=>absurd (by decide +kernel) z
 exact wpAny_bind (wpAny_typeOf hT (wpAny_pure h))
theorem M7 {out:List Value} {acc:Array Value} (h:ItemsOf (fun i v=>out[i]?=some v) acc out.length):acc=out.toArray:=by
 refine Array.ext (by simpa using h.1) fun j h1 h2=>?_
 have this:out[j]?=some acc[j]:=h.2 j acc[j] (Array.getElem?_eq_getElem h1);have hj:j < out.length:=by simpa using h2
 rw [List.getElem?_eq_getElem hj] at this;simpa using (Option.some.inj this).symm
theorem Ip {R:Result→Shared→Prop} (hh:A.handled=none) (hs:oO (bt w) s.heap S es ep t) (hb:es.size < scanBound) {L:Addr} (ne:L≠S) {c0:Nat} (hL:s.heap.get? L=some { cls:=.type "list",data:=.seq #[] c0 }) (res:Value)
  (hR:∀(h':Heap) (d:Drawn) (tk:Nat) (us:List Value) (c':Nat),us.Perm (es.toList.map (·.2))→(∀b o,b≠L→s.heap.get? b=some o→h'.get? b=some o)→h'.get? L=some { cls:=.type "list",dict:=none,data:=.seq us.toArray c',slots:=#[] }→
   R (.ok (.ret res)) { s with heap:=h',drawn:=d,toks:=tk }):
  wpAny (model prog w) A.in1 (Builtin.List.listExtendWith (.ref L) (.ref S) res) (fun fin s'=>match fin with | .done f=>R (.ok f) s' | .again c'=>c'.quiet=true∧codeAny (model prog w) A c' R s') (fun e s'=>R (.error e) s') s:=by
 obtain ⟨os,hos,exs,hds,hf,tb⟩:=id hs;have hT:s.TypeIs (.ref S) "set":=⟨os,hos,exs.1⟩
 have ltL:L < s.heap.objs.size:=Heap.lt_size hL;unfold Builtin.List.listExtendWith;refine wpAny_bind (wpAny_typeOf hT ?_);rw [show (Builtin.List.listSameRef (.ref L) (.ref S) || Value.type "set"==Value.type "list" || Value.type "set"==Value.type "tuple")=false by
  rw [show Builtin.List.listSameRef (.ref L) (.ref S)=false by simp [Builtin.List.listSameRef,ne]];decide]
 simp only [Bool.false_eq_true,if_false];refine wpAny_bind (Qg (A:=A.in1) hh hs hb fun I h1 d fp out St W st pm kp geI okf=>?_);have lo:out.length=es.size:=by rw [pm.length_eq,List.length_map,Array.length_toList]
 have bG:L∉fp:=fun z=>(okf L z).elim ne fun z'=>absurd ltL (Nat.not_lt.mpr z')
 have run:∀(h2:Heap) (c1 tk:Nat),St 0 h2→(∀b o,b≠L→s.heap.get? b=some o→h2.get? b=some o)→h2.get? L=some { cls:=.type "list",data:=.seq #[] c1 }→
   codeAny (model prog w) A (.builtin "list.extend.loop" ⟨[.ref L,.ref I,res],[]⟩) R { s with heap:=h2,drawn:=d,toks:=tk }:=fun h2 c1 tk st2 k2 g2=>by
  refine codeAny_extend_loopS W.toS (fits_of_scanBound hb) L bG res es.size 0 _ #[] c1 rfl (Nat.zero_le _) st2 g2 (ItemsOf.nil _) fun s3 acc c3 mv g3 io=>?_
  rw [←lo] at io;have ea:=M7 io;subst ea;rw [Moved.eq_with mv];refine hR s3.heap d s3.toks out c3 pm (fun b o nb e=>mv.heap b o (fun z=>?_) (k2 b o nb e)) g3;rcases List.mem_cons.mp z with z | z
  ·exact nb z
  ·exact absurd (Heap.lt_size e) (by rw [List.mem_singleton.mp z];exact Nat.not_lt.mpr geI)
 have gL:=kp L _ hL;have gS:Shared.TypeIs { s with heap:=h1,drawn:=d } (.ref S) "set":=⟨os,kp S _ hos,exs.1⟩
 refine wpAny_bind (wpAny_holding (Qh gS ?_));refine wpAny_ite_split (fun _=>?_) fun _=>wpAny_pure ⟨plainId_quiet PySem.F.plain_extend_loop _,run h1 c0 s.toks st (fun b o _ e=>kp b o e) gL⟩
 refine wpAny_bind (wpAny_rule (wpAny_bind (show wpAny _ _ (updateSeq L (·.push .none) >>= fun _=>updateSeq L (·.pop)) _ _ _ from ?_)));refine wpAny_bind (wpAny_updateSeq gL rfl ?_);have u2:=Heap.get?_update_self (Obj.mapSeq (·.push Value.none)) gL rfl;refine wpAny_updateSeq (hz:=by seq_fits) u2 rfl ?_;have u3:=Heap.get?_update_self (Obj.mapSeq (·.pop)) u2 rfl;have far:∀b o,b≠L→h1.get? b=some o→((h1.update L (Obj.mapSeq (·.push Value.none))).update L (Obj.mapSeq (·.pop))).get? b=some o:=fun b o nb e=>
  (Heap.get?_update_other _ _ (Ne.symm nb)).trans ((Heap.get?_update_other _ _ (Ne.symm nb)).trans e)
 exact wpAny_pure ⟨plainId_quiet PySem.F.plain_extend_loop _,run _ _ s.toks (W.frame 0 _ _ st fun b hb' o e=>far b o (fun z=>bG (z ▸ hb')) e) (fun b o nb e=>far b o nb (kp b o e)) u3⟩
theorem Eu {R:List Value→Shared→Prop} (hh:A.handled=none) (hs:oO (bt w) s.heap S es ep t) (hb:es.size < scanBound)
  (h:∀(h':Heap) (d:Drawn) (tk:Nat) (us:List Value),us.Perm (es.toList.map (·.2))→s.heap.objs.size≤h'.objs.size→(∀b o,s.heap.get? b=some o→h'.get? b=some o)→R us { s with heap:=h',drawn:=d,toks:=tk }):
  wpAny (model prog w) A (collect (.ref S)) R E s:=by
 have ltS:S < s.heap.objs.size:=let ⟨_,e,_⟩:=hs;Heap.lt_size e
 unfold collect;refine wpAny_bind (wpAny_runValue (codeAny_builtin entry_proto_collect' ?_));rw [Around.under_plainId PySem.F.plain_proto_collect _];show wpAny _ A.in1 (newList [] >>= fun l=>again (.builtin "list.__iadd__" ⟨[l,.ref S],[]⟩)) _ _ s;refine wpAny_bind (wpAny_newObj_type (wpAny_pure ⟨plainId_quiet PySem.F.plain_list_iadd _,codeAny_builtin entry_list_iadd' ?_⟩));rw [Around.under_plainId PySem.F.plain_list_iadd _];have g0:(s.heap.push { cls:=.type "list",data:=.seq ([]:List Value).toArray }).get? s.heap.objs.size=some { cls:=.type "list",data:=.seq #[] }:=Heap.get?_push_size _ rfl;show wpAny _ A.in1 (Builtin.List.listExtendWith (.ref s.heap.objs.size) (.ref S) (.ref s.heap.objs.size)) _ _ _;have key:=Ip (prog:=prog) (A:=A) (s:={ s with heap:=s.heap.push { cls:=.type "list",data:=.seq ([]:List Value).toArray } })
  (R:=fun (q:Result) (s':Shared)=>∃(h':Heap) (d:Drawn) (tk:Nat) (us:List Value) (c':Nat),q=.ok (.ret (.ref s.heap.objs.size))∧s'={ s with heap:=h',drawn:=d,toks:=tk }∧us.Perm (es.toList.map (·.2))∧(∀b o,s.heap.get? b=some o→h'.get? b=some o)∧h'.get? s.heap.objs.size=some { cls:=.type "list",dict:=none,data:=.seq us.toArray c',slots:=#[] })
  hh (hs.at fun o e=>Heap.get?_push_of_some _ e) hb (Nat.ne_of_gt ltS) g0 (.ref s.heap.objs.size) (fun h' d tk us c' pm kk g=>⟨h',d,tk,us,c',rfl,rfl,pm,fun b o e=>kk b o (Nat.ne_of_lt (Heap.lt_size e)) (Heap.get?_push_of_some _ e),g⟩)
 refine wpAny_mono key (fun fin s' x=>?_) fun e s' x=>?_
 ·cases fin with
  | done f=>
   obtain ⟨h',d,tk,us,c',e,rfl,pm,kk,g⟩:=x;cases e;show wpAny _ A (load s.heap.objs.size >>= _) _ _ _;exact wpAny_bind (wpAny_load g (wpAny_pure (h h' d tk us pm (Nat.le_of_lt (Heap.lt_size g)) kk)))
  | again c1=>
   refine ⟨x.1,codeAny_mono x.2 fun q s2 y=>?_⟩;obtain ⟨h',d,tk,us,c',rfl,rfl,pm,kk,g⟩:=y;show wpAny _ A (load s.heap.objs.size >>= _) _ _ _;exact wpAny_bind (wpAny_load g (wpAny_pure (h h' d tk us pm (Nat.le_of_lt (Heap.lt_size g)) kk)))
 ·obtain ⟨_,_,_,_,_,e',_⟩:=x;cases e'
end
section
variable {prog:Program} {w:World} {A:Around} {E:Value→Shared→Prop} {s:Shared} {S:Addr} {es:Array (Int×Value)} {ep:Nat} {t:SetTable}
theorem Ir {Ok:List Value→Prop} {Q:Value→Shared→Prop} (hh:A.handled=none) (hs:oO (bt w) s.heap S es ep t) (few:es.size < 64)
  (srt:∀us:List Value,us.Perm (es.toList.map (·.2))→∀(B:Around) (s1:Shared) (a:Addr) (n:Nat) (P:Fin→Shared→Prop) (E':Value→Shared→Prop),s1.heap.get? a=some (seqObj "list" us.toArray n)→
   (∀out:Array Value,Ok out.toList→P (.done (.ret .none)) { s1 with heap:=sortedHeap s1.heap a us out })→wpAny (model prog w) B (Builtin.«list.sort» ⟨[.ref a],[]⟩) P E' s1)
  (h:∀(D:Addr) (h':Heap) (d:Drawn) (tk c:Nat) (out:Array Value),Ok out.toList→s.heap.objs.size≤D→(∀b o,s.heap.get? b=some o→h'.get? b=some o)→h'.get? D=some (seqObj "list" out c)→Q (.ref D) { s with heap:=h',drawn:=d,toks:=tk }):
  wpAny (model prog w) A (call (.builtin "sorted") [.ref S]) Q E s:=by
 refine Calls.call_function_entry kind_sorted plain_sorted entry_sorted (args_sorted1 _) ?_;unfold Builtin.«sorted»;refine wpAny_bind (m:=checkCount "sorted" 1 1 _) (wpAny_pure (wpAny_bind (Eu (A:=A.in1) hh hs (by unfold scanBound;omega) fun h1 d tk us pm ge kk=>?_)));have lu:us.length=es.size:=by rw [pm.length_eq,List.length_map,Array.length_toList]
 refine wpAny_bind (wpAny_newList ?_ (by rw [sizeLine_eq];omega));have gL:(h1.push (seqObj "list" us.toArray 0)).get? h1.objs.size=some (seqObj "list" us.toArray 0):=Heap.get?_push_size _ rfl;refine wpAny_bind (wpAny_holding (wpAny_call_entry slot_list_sort ⟨_,gL,rfl⟩ entry_list_sort (srt us pm _ { s with heap:=h1.push (seqObj "list" us.toArray 0),drawn:=d,toks:=tk } _ 0 _ _ gL fun out ok=>⟨_,rfl,?_⟩) (args_list_sort _)));obtain ⟨c,gD⟩:=sortedHeap_at (out:=out) gL;refine wpAny_pure ⟨_,rfl,h h1.objs.size _ d tk c out ok ge (fun b o e=>?_) gD⟩;have lb:b < h1.objs.size:=Heap.lt_size (kk b o e);show (sortedHeap (h1.push (seqObj "list" us.toArray 0)) h1.objs.size us out).get? b=some o;rw [sortedHeap_old (Nat.ne_of_lt lb) (by rw [Heap.size_push];exact Nat.lt_succ_of_lt lb)];exact Heap.get?_push_of_some _ (kk b o e)
end
theorem Inv.drew {X:Cx} {pins:List (Addr×Obj)} {σ:St} {H:Hp} {s:Shared} (d:Drawn) (I:Inv X pins σ H s):Inv X pins σ H { s with drawn:=d }:=
 I.call (g':=s.gens) (t':=s.toks) (d':=d) (ch:=[]) (Un.kept fun _ _ e=>e) (I.hok.kept fun _ _ e=>e) I.bare (fun _ z=>nomatch z)
section
variable {X:Cx} {T:Type} [DecidableEq T] {knd:PySem.KeyKind X.prog X.w T} {l:Expr} {tl:TE} {p1 p2 pos1 pos2:Pos}
end
section
variable {prog:Program} {w:World}
theorem Qi {es:List (Int×Value)} {ks:List Str} (h:zu (PySem.strKind prog w) es ks):(es.map (·.2)).map strOf=ks∧∀v,v∈es.map (·.2)→∃x t,v=.str x t:=by
 induction h with
 | nil=>exact ⟨rfl,fun v hv=>by cases hv⟩
 | @cons e k es ks a _ ih=>
  obtain ⟨t,ht⟩:=Value.isStrOf_shape (show Value.isStrOf k e.2=true from a.1);refine ⟨by rw [List.map_cons,List.map_cons,ih.1,ht];rfl,fun v hv=>?_⟩;rcases List.mem_cons.mp hv with rfl | hv
  ·exact ⟨k,t,ht⟩
  ·exact ih.2 v hv
end
section
variable {X:Cx} {l:Expr} {tl:TE} {p1 p2 pos1 pos2:Pos}
end
section
variable {prog:Program} {w:World} {A:Around} {E:Value→Shared→Prop} {s:Shared} {R:Result→Shared→Prop} {I S:Addr} {fp wr:List Addr} {n:Nat} {Pv:Nat→Value→Prop} {St:Nat→Heap→Prop} {bt:Nat→Nat→Bool}
def ZR (v:Value) (c:Nat):Obj:={ cls:=.type "list",dict:=none,data:=.seq #[v,v] c,slots:=#[] }
end
section
variable {prog:Program} {w:World} {A:Around} {E:Value→Shared→Prop} {s:Shared}
theorem Bs {id:String} {b:Builtin} {as:List Value} {kw:List (Str×Value)} {Q:Value→Shared→Prop} (hk:builtinKind id=none) (hp:plainId id=true) (hb:entryFor table id=some b) (ha:argsOk id ⟨as,kw⟩)
  (hc:wpAny (model prog w) A.in1 (b ⟨as,kw⟩) (fun fin s'=>match fin with
   | .done f=>(match (Except.ok f:Result) with | .ok (.ret v)=>Q v s' | .ok _=>False | .error e=>E e s')
   | .again c'=>c'.quiet=true∧codeAny (model prog w) A c' (fun r s'=>match r with | .ok (.ret v)=>Q v s' | .ok _=>False | .error e=>E e s') s') E s):wpAny (model prog w) A (call (.builtin id) as kw) Q E s:=by
 refine wpAny_call (codeAny_call_builtin hp hb ?_);simp only [checkBuiltinCall,hk];cases hg:Manifest.signature? id with
 | none=>exact wpAny_pure hc
 | some sg=>
  simp only [argsOk,hg] at ha;show wpAny _ A.in1 (Bind.checkArgs id sg ⟨as,kw⟩) _ _ s;rw [show Bind.checkArgs id sg ⟨as,kw⟩=pure () from ha];exact wpAny_pure hc
end
section
variable {X:Cx} {l de:Expr} {tl td:TE} {p pos kp:Pos}
end
end L2
namespace L2
open PySem PySem.Spec PyProof.Rows PySem.W
def c7:PyData→Option Key
 | .int i=>some (.inl i)
 | .str x=>some (.inr x)
 | _=>none
def keysOf:List PyData→Option (List Key)
 | []=>some []
 | d::r=>match c7 d,keysOf r with
  | some k,some t=>some (k::t)
  | _,_=>none
def nJ:PyData→Option (List Key)
 | .tuple ds=>keysOf ds
 | _=>none
def cM {κ:Type} (f:PyData→Option κ):List (PyData×PyData)→Option (List κ)
 | []=>some []
 | p::r=>match f p.1,cM f r with
  | some k,some t=>some (k::t)
  | _,_=>none
def VN (H:Hp) (a:Addr) (kvs:List (PyData×PyData)) (vs:List V):Prop:=
 (∃ks,cM c7 kvs=some ks∧H a=some (.dK (ks.zip vs)))∨∃ks,(kvs≠[]∧cM nJ kvs=some ks)∧H a=some (.dT (ks.zip vs))
mutual
def RZ (H:Hp):PyData→V→Prop
 | .none,v=>v=.non
 | .bool b,v=>v=.bl b
 | .int i,v=>v=.int i
 | .str x,v=>v=.str x
 | .list ds,v=>∃a vs,v=.ref a∧H a=some (.lst vs)∧gn H ds vs
 | .tuple ds,v=>∃a vs,v=.ref a∧H a=some (.tup vs)∧gn H ds vs
 | .dict kvs,v=>∃a vs,v=.ref a∧VN H a kvs vs∧um H kvs vs
def gn (H:Hp):List PyData→List V→Prop
 | [],vs=>vs=[]
 | d::ds,vs=>∃v r,vs=v::r∧RZ H d v∧gn H ds r
def um (H:Hp):List (PyData×PyData)→List V→Prop
 | [],vs=>vs=[]
 | p::r,vs=>∃v t,vs=v::t∧RZp H p v∧um H r t
def RZp (H:Hp):PyData×PyData→V→Prop
 | (_,d),v=>RZ H d v
end
theorem VN.same {H H':Hp} (s:bu H H') {a:Addr} {kvs:List (PyData×PyData)} {vs:List V} (h:VN H a kvs vs):VN H' a kvs vs:=by
 rcases h with ⟨ks,e,h⟩ | ⟨ks,e,h⟩
 ·exact .inl ⟨ks,e,s _ _ h⟩
 ·exact .inr ⟨ks,e,s _ _ h⟩
mutual
theorem RZ.same {H H':Hp} (s:bu H H'):∀{d:PyData} {v:V},RZ H d v→RZ H' d v
 | .none,_,h=>h
 | .bool _,_,h=>h
 | .int _,_,h=>h
 | .str _,_,h=>h
 | .list ds,_,h=>by
  obtain ⟨a,vs,e,q,r⟩:=h;exact ⟨a,vs,e,s _ _ q,gn.same s r⟩
 | .tuple ds,_,h=>by
  obtain ⟨a,vs,e,q,r⟩:=h;exact ⟨a,vs,e,s _ _ q,gn.same s r⟩
 | .dict kvs,_,h=>by
  obtain ⟨a,vs,e,q,r⟩:=h;exact ⟨a,vs,e,q.same s,um.same s r⟩
theorem gn.same {H H':Hp} (s:bu H H'):∀{ds:List PyData} {vs:List V},gn H ds vs→gn H' ds vs
 | [],_,h=>h
 | d::ds,vs,h=>by
  obtain ⟨v,r,e,q,t⟩:=h;exact ⟨v,r,e,RZ.same s q,gn.same s t⟩
theorem um.same {H H':Hp} (s:bu H H'):∀{kvs:List (PyData×PyData)} {vs:List V},um H kvs vs→um H' kvs vs
 | [],_,h=>h
 | (k,d)::ds,vs,h=>by
  obtain ⟨v,r,e,q,t⟩:=h;exact ⟨v,r,e,RZ.same s q,um.same s t⟩
end
theorem bW {H:Hp}:∀{ds:List PyData} {vs:List V},gn H ds vs→vs.length=ds.length
 | [],_,h=>by cases (show _=[] from h);rfl
 | e::ds,vs,h=>by
  obtain ⟨u,r,e1,q,s⟩:=h;subst e1;rw [List.length_cons,List.length_cons,bW s]
theorem sV {H:Hp}:∀{ds:List (PyData×PyData)} {vs:List V},um H ds vs→vs.length=ds.length
 | [],_,h=>by cases (show _=[] from h);rfl
 | e::ds,vs,h=>by
  obtain ⟨u,r,e1,q,s⟩:=h;subst e1;rw [List.length_cons,List.length_cons,sV s]
theorem oR {H:Hp}:∀{ds:List PyData} {vs:List V} {i:Nat} {d:PyData},gn H ds vs→ds[i]?=some d→∃v,vs[i]?=some v∧RZ H d v
 | [],_,_,_,_,e=>by simp at e
 | x::ds,vs,i,d,h,e=>by
  obtain ⟨u,r,e1,q,s⟩:=h;subst e1;cases i with
  | zero=>cases e;exact ⟨u,rfl,q⟩
  | succ i=>
   obtain ⟨v,e2,h2⟩:=oR (i:=i) s (by simpa using e);exact ⟨v,by simpa using e2,h2⟩
theorem mY {H:Hp}:∀{ds es:List PyData} {vs ws:List V},gn H ds vs→gn H es ws→gn H (ds++es) (vs++ws)
 | [],_,_,_,h,g=>by cases (show _=[] from h);exact g
 | d::ds,_,_,_,h,g=>by
  obtain ⟨u,r,e1,q,s⟩:=h;subst e1;exact ⟨u,_,rfl,q,mY s g⟩
theorem Ew {H:Hp}:∀{ds:List PyData} {vs:List V} (n:Nat),gn H ds vs→gn H (ds.take n) (vs.take n)
 | _,_,0,_=>by rw [List.take_zero,List.take_zero];rfl
 | [],_,n + 1,h=>by cases (show _=[] from h);rfl
 | d::ds,_,n + 1,h=>by
  obtain ⟨u,r,e1,q,s⟩:=h;subst e1;exact ⟨u,_,rfl,q,Ew n s⟩
theorem Ex {H:Hp}:∀{ds:List PyData} {vs:List V} (n:Nat),gn H ds vs→gn H (ds.drop n) (vs.drop n)
 | _,_,0,h=>h
 | [],_,n + 1,h=>by cases (show _=[] from h);rfl
 | d::ds,_,n + 1,h=>by
  obtain ⟨u,r,e1,q,s⟩:=h;subst e1;exact Ex n s
theorem Kf {H:Hp} {d:PyData} {v:V} (hv:RZ H d v):∀{ds:List PyData} {vs:List V} (i:Nat),gn H ds vs→gn H (ds.set i d) (vs.set i v)
 | [],_,_,h=>by cases (show _=[] from h);rfl
 | x::ds,_,i,h=>by
  obtain ⟨u,r,e1,q,s⟩:=h;subst e1;cases i with
  | zero=>exact ⟨v,r,rfl,hv,s⟩
  | succ i=>exact ⟨u,_,rfl,q,Kf hv i s⟩
def fL:PyData→Bool
 | .none=>true
 | .bool _=>true
 | .int _=>true
 | .str _=>true
 | _=>false
def toV:PyData→V
 | .none=>.non
 | .bool b=>.bl b
 | .int i=>.int i
 | .str x=>.str x
 | _=>.non
theorem Uc {H:Hp} {d:PyData} {v:V} (f:fL d=true) (h:RZ H d v):v=toV d:=by
 cases d <;> first | exact h | cases f
theorem Ud {H:Hp} {d:PyData} (f:fL d=true):RZ H d (toV d):=by
 cases d <;> first | rfl | cases f
theorem xJ {H:Hp}:∀{ds:List PyData} {vs:List V},ds.all fL=true→gn H ds vs→vs=ds.map toV
 | [],_,_,h=>h
 | d::ds,vs,f,h=>by
  obtain ⟨u,r,e1,q,s⟩:=h;rw [List.all_cons,Bool.and_eq_true] at f;rw [e1,Uc f.1 q,xJ f.2 s];rfl
theorem Qj {H:Hp} (ns:List Int):gn H (ns.map PyData.int) (ns.map V.int):=by
 induction ns with
 | nil=>rfl
 | cons n r ih=>exact ⟨_,_,rfl,rfl,ih⟩
theorem xK {H:Hp} (ns:List Str):gn H (ns.map PyData.str) (ns.map V.str):=by
 induction ns with
 | nil=>rfl
 | cons n r ih=>exact ⟨_,_,rfl,rfl,ih⟩
mutual
def zx:PyData→Bool
 | .list _=>false
 | .tuple ds=>fY ds
 | .dict _=>false
 | _=>true
def fY:List PyData→Bool
 | []=>true
 | d::r=>zx d&&fY r
end
mutual
theorem RZ.zx {H H':Hp} (t:∀a vs,H a=some (.tup vs)→H' a=some (.tup vs)):∀{d:PyData} {v:V},zx d=true→RZ H d v→RZ H' d v
 | .none,_,_,h=>h
 | .bool _,_,_,h=>h
 | .int _,_,_,h=>h
 | .str _,_,_,h=>h
 | .list ds,_,n,h=>nomatch n
 | .tuple ds,_,n,h=>by
  obtain ⟨a,vs,e,q,r⟩:=h;exact ⟨a,vs,e,t _ _ q,gn.zx t n r⟩
 | .dict _,_,n,_=>nomatch n
theorem gn.zx {H H':Hp} (t:∀a vs,H a=some (.tup vs)→H' a=some (.tup vs)):∀{ds:List PyData} {vs:List V},fY ds=true→gn H ds vs→gn H' ds vs
 | [],_,_,h=>h
 | d::ds,vs,n,h=>by
  obtain ⟨v,r,e,q,w⟩:=h;have n':L2.zx d=true∧fY ds=true:=by rw [fY,Bool.and_eq_true] at n;exact n
  exact ⟨v,r,e,RZ.zx t n'.1 q,gn.zx t n'.2 w⟩
end
mutual
def Qk:PyData→Bool
 | .list ds=>Ey ds
 | .tuple ds=>Ey ds
 | .dict _=>false
 | _=>true
def Ey:List PyData→Bool
 | []=>true
 | d::r=>Qk d&&Ey r
end
mutual
theorem RZ.rx {H:Hp}:∀{d:PyData} {v:V},Qk d=true→RZ H d v→RX H d v
 | .none,_,_,h=>h
 | .bool _,_,_,h=>h
 | .int _,_,_,h=>h
 | .str _,_,_,h=>h
 | .list ds,_,n,h=>by
  obtain ⟨a,vs,e,q,r⟩:=h;exact ⟨a,vs,e,q,gn.rx n r⟩
 | .tuple ds,_,n,h=>by
  obtain ⟨a,vs,e,q,r⟩:=h;exact ⟨a,vs,e,q,gn.rx n r⟩
 | .dict _,_,n,_=>nomatch n
theorem gn.rx {H:Hp}:∀{ds:List PyData} {vs:List V},Ey ds=true→gn H ds vs→Ep H ds vs
 | [],_,_,h=>h
 | d::ds,vs,n,h=>by
  obtain ⟨v,r,e,q,t⟩:=h;have n':Qk d=true∧Ey ds=true:=by rw [Ey,Bool.and_eq_true] at n;exact n
  exact ⟨v,r,e,RZ.rx n'.1 q,gn.rx n'.2 t⟩
end
inductive Vl where
 | im (d:PyData)
 | ow (d:PyData)
 | ce (n:Nat)
 | sc (ns:List Int)
abbrev En:=List (Option Vl)
abbrev Ce:=List (List Int)
def own1:Option Vl→Option V→List Addr
 | some (.ow _),some (.ref a)=>[a]
 | _,_=>[]
def bD:En→St→List Addr
 | x::e,v::s=>own1 x v++bD e s
 | _,_=>[]
theorem cO {a:Addr}:∀{env:En} {σ:St},a∈bD env σ ↔ ∃(i:Nat) (d:PyData),env[i]?=some (some (Vl.ow d))∧σ[i]?=some (some (V.ref a))
 | [],σ=>by
  constructor
  ·intro h;simp [bD] at h
  ·rintro ⟨i,d,e,_⟩;simp at e
 | x::e,[]=>by
  constructor
  ·intro h;simp [bD] at h
  ·rintro ⟨i,d,_,e⟩;simp at e
 | x::e,v::s=>by
  rw [bD,List.mem_append,cO (env:=e) (σ:=s)];constructor
  ·rintro (h | ⟨i,d,h1,h2⟩)
   ·unfold own1 at h;split at h
    ·rw [List.mem_singleton] at h;subst h;exact ⟨0,_,rfl,rfl⟩
    ·simp at h
   ·exact ⟨i + 1,d,by simpa using h1,by simpa using h2⟩
  ·rintro ⟨i,d,h1,h2⟩;cases i with
   | zero=>
    simp at h1 h2;subst h1 h2;exact .inl (List.mem_singleton.mpr rfl)
   | succ i=>exact .inr ⟨i,d,by simpa using h1,by simpa using h2⟩
theorem sW {a:Addr}:∀{env:En} {σ:St} {i j:Nat} {d e:PyData},(bD env σ).Nodup→env[i]?=some (some (Vl.ow d))→σ[i]?=some (some (V.ref a))→env[j]?=some (some (Vl.ow e))→σ[j]?=some (some (V.ref a))→i=j
 | [],_,i,_,_,_,_,h,_,_,_=>by simp at h
 | _::_,[],i,_,_,_,_,_,h,_,_=>by simp at h
 | x::en,v::s,i,j,d,e,nd,h1,h2,h3,h4=>by
  rw [bD,List.nodup_append] at nd;cases i with
  | zero=>
   cases j with
   | zero=>rfl
   | succ j=>
    simp at h1 h2;subst h1 h2;have:a∈bD en s:=cO.mpr ⟨j,e,by simpa using h3,by simpa using h4⟩;exact absurd rfl (nd.2.2 a (List.mem_singleton.mpr rfl) a this)
  | succ i=>
   cases j with
   | zero=>
    simp at h3 h4;subst h3 h4;have:a∈bD en s:=cO.mpr ⟨i,d,by simpa using h1,by simpa using h2⟩;exact absurd rfl (nd.2.2 a (List.mem_singleton.mpr rfl) a this)
   | succ j=>rw [sW (i:=i) (j:=j) nd.2.1 (by simpa using h1) (by simpa using h2) (by simpa using h3) (by simpa using h4)]
def fz1 (x y:Option Vl):Prop:=y=x∨∃d,x=some (.ow d)∧y=some (.im d)
def Fz:En→En→Prop
 | [],[]=>True
 | x::r,y::t=>fz1 x y∧Fz r t
 | _,_=>False
theorem Fz.refl:∀e:En,Fz e e
 | []=>trivial
 | x::r=>⟨.inl rfl,Fz.refl r⟩
theorem Fz.trans:∀{a b c:En},Fz a b→Fz b c→Fz a c
 | [],[],[],_,_=>trivial
 | x::r,y::t,z::w,h,g=>by
  refine ⟨?_,Fz.trans h.2 g.2⟩;rcases h.1 with e | ⟨d,e1,e2⟩
  ·rw [←e];exact g.1
  ·rcases g.1 with e | ⟨d',e3,e4⟩
   ·exact .inr ⟨d,e1,e.trans e2⟩
   ·rw [e2] at e3;cases e3
 | [],[],_::_,_,g=>nomatch g
 | [],_::_,_,h,_=>nomatch h
 | _::_,[],_,h,_=>nomatch h
 | _::_,_::_,[],_,g=>nomatch g
theorem Fz.len:∀{a b:En},Fz a b→b.length=a.length
 | [],[],_=>rfl
 | _::_,_::_,h=>by rw [List.length_cons,List.length_cons,Fz.len h.2]
 | [],_::_,h=>nomatch h
 | _::_,[],h=>nomatch h
theorem Fz.at:∀{a b:En} {i:Nat} {y:Vl},Fz a b→b[i]?=some (some y)→a[i]?=some (some y)∨∃d,a[i]?=some (some (.ow d))∧y=.im d
 | [],[],i,y,_,e=>by simp at e
 | x::r,z::t,0,y,h,e=>by
  simp at e;rcases h.1 with q | ⟨d,q1,q2⟩
  ·left;rw [←q,e];rfl
  ·right;rw [e] at q2;cases q2;exact ⟨d,by rw [q1];rfl,rfl⟩
 | x::r,z::t,i + 1,y,h,e=>by
  simpa using Fz.at (i:=i) h.2 (by simpa using e)
 | [],_::_,_,_,h,_=>nomatch h
 | _::_,[],_,_,h,_=>nomatch h
theorem Ue {x y:Option Vl} (h:fz1 x y) (v:Option V):List.Sublist (own1 y v) (own1 x v):=by
 rcases h with e | ⟨d,e1,e2⟩
 ·rw [e];exact List.Sublist.refl _
 ·rw [e2];exact List.nil_sublist _
theorem Fz.own:∀{a b:En} {σ:St},Fz a b→List.Sublist (bD b σ) (bD a σ)
 | [],[],σ,_=>by cases σ <;> exact List.Sublist.refl _
 | x::r,y::t,[],h=>List.Sublist.refl _
 | x::r,y::t,v::s,h=>by
  rw [bD,bD];exact List.Sublist.append (Ue h.1 v) (Fz.own h.2)
 | [],_::_,_,h=>nomatch h
 | _::_,[],_,h=>nomatch h
abbrev aR (Z Θ:List Addr) (env:En) (σ:St):List Addr:=Z++(Θ++bD env σ)
def mq (E H:Hp) (a:Addr):PyData→Prop
 | .list ds=>∃vs,H a=some (.lst vs)∧gn E ds vs
 | .dict kvs=>∃vs,VN H a kvs vs∧um E kvs vs
 | _=>False
theorem mq.same {E E' H H':Hp} {a:Addr} {d:PyData} (s:bu E E') (h:∀o,H a=some o→H' a=some o) (r:mq E H a d):mq E' H' a d:=by
 cases d <;> first | exact r.elim | skip
 ·obtain ⟨vs,e,q⟩:=r;exact ⟨vs,h _ e,q.same s⟩
 ·obtain ⟨vs,e,q⟩:=r;refine ⟨vs,?_,q.same s⟩;rcases e with ⟨ks,k,e⟩ | ⟨ks,k,e⟩
  ·exact .inl ⟨ks,k,h _ e⟩
  ·exact .inr ⟨ks,k,h _ e⟩
theorem mq.rz {E H:Hp} {a:Addr} {d:PyData} (h:∀o,H a=some o→E a=some o) (r:mq E H a d):RZ E d (.ref a):=by
 cases d <;> first | exact r.elim | skip
 ·obtain ⟨vs,e,q⟩:=r;exact ⟨a,vs,rfl,h _ e,q⟩
 ·obtain ⟨vs,e,q⟩:=r;refine ⟨a,vs,rfl,?_,q⟩;rcases e with ⟨ks,k,e⟩ | ⟨ks,k,e⟩
  ·exact .inl ⟨ks,k,h _ e⟩
  ·exact .inr ⟨ks,k,h _ e⟩
structure bY (Θ:List Addr) (H H':Hp):Prop where
 keep:∀a o,H a=some o→a∉Θ→H' a=some o
 dom:∀a,H a≠none→H' a≠none
theorem bY.refl (Θ:List Addr) (H:Hp):bY Θ H H:=⟨fun _ _ e _=>e,fun _ e=>e⟩
theorem bY.trans {Θ:List Addr} {H H1 H2:Hp} (a:bY Θ H H1) (b:bY Θ H1 H2):bY Θ H H2:=⟨fun c o e n=>b.keep _ _ (a.keep _ _ e n) n,fun c e=>b.dom _ (a.dom _ e)⟩
theorem bY.none {Θ:List Addr} {H H':Hp} (k:bY Θ H H') {a:Addr} (h:H' a=none):H a=none:=by
 cases e:H a with
 | none=>rfl
 | some o=>exact absurd h (k.dom a (by rw [e];exact Option.some_ne_none _))
theorem bY.of {Θ:List Addr} {H H':Hp} (s:bu H H'):bY Θ H H':=⟨fun a o e _=>s _ _ e,fun a h=>by
 cases e:H a with
 | none=>exact absurd e h
 | some o=>rw [s _ _ e];exact Option.some_ne_none _⟩
theorem bY.upd {Θ:List Addr} {H:Hp} {p:Addr} {o:HO} (h:H p=Option.none):bY Θ H (L2.upd H p o):=bY.of (bu.upd h)
theorem gA {Z Z' Θ:List Addr} {H H':Hp} (k:bY Θ H H') (ht:∀a∈Θ,a∈Z) (hz:∀a,a∈Z'→a∈Z∨H a=none):bu (er Z H) (er Z' H'):=fun b o h=>by
 unfold er at h ⊢;split at h
 ·cases h
 ·rename_i n;rw [if_neg,k.keep _ _ h (fun m=>n (ht b m))];intro m;rcases hz b m with q | q
  ·exact n q
  ·rw [q] at h;cases h
def M8 (K:PySem.W.Frag) (E H:Hp) (Θ:List Addr):Vl→V→Prop
 | .im d,v=>RZ E d v
 | .ow d,v=>∃a,v=.ref a∧mq E H a d
 | .ce n,v=>∃a,v=.ref a∧Θ[n]?=some a
 | .sc ns,v=>∃a,v=.ref a∧di K E a (ns.map V.int)
def NT (o:Option HO):Prop:=∃u,o=some u∧∀vs,u≠.tup vs
theorem NT.ne {o:Option HO} (h:NT o):o≠none:=by
 obtain ⟨u,rfl,_⟩:=h;exact Option.some_ne_none _
theorem mq.nt {E H:Hp} {a:Addr} {d:PyData} (r:mq E H a d):NT (H a):=by
 cases d <;> first | exact r.elim | skip
 ·obtain ⟨vs,e,q⟩:=r;exact ⟨_,e,fun _ z=>nomatch z⟩
 ·obtain ⟨vs,e,q⟩:=r;rcases e with ⟨ks,k,e⟩ | ⟨ks,k,e⟩
  ·exact ⟨_,e,fun _ z=>nomatch z⟩
  ·exact ⟨_,e,fun _ z=>nomatch z⟩
theorem mq.there {E H:Hp} {a:Addr} {d:PyData} (r:mq E H a d):H a≠none:=r.nt.ne
structure gB (Θ:List Addr) (C:Ce) (H:Hp):Prop where
 len:C.length=Θ.length
 at_:∀(n:Nat) (a:Addr) (ns:List Int),Θ[n]?=some a→C[n]?=some ns→H a=some (.lst (ns.map V.int))
structure Sm (K:PySem.W.Frag) (Z Θ:List Addr) (env:En) (C:Ce) (σ:St) (H:Hp):Prop where
 len:σ.length=env.length
 nd:(aR Z Θ env σ).Nodup
 dom:∀a∈Z,NT (H a)
 slot:∀(i:Nat) (x:Vl),env[i]?=some (some x)→∃v,σ[i]?=some (some v)∧M8 K (er (aR Z Θ env σ) H) H Θ x v
 cell:gB Θ C H
theorem gB.dom {Θ:List Addr} {C:Ce} {H:Hp} (c:gB Θ C H):∀a∈Θ,NT (H a):=fun a m=>by
 obtain ⟨n,hn,e⟩:=List.getElem_of_mem m;have e1:Θ[n]?=some a:=by rw [List.getElem?_eq_getElem hn,e]
 have h2:n < C.length:=by rw [c.len];exact hn
 exact ⟨_,c.at_ n a C[n] e1 (List.getElem?_eq_getElem h2),fun _ z=>nomatch z⟩
section
variable {K:PySem.W.Frag} {Z Θ:List Addr} {env env':En} {C C':Ce} {σ:St} {H H':Hp}
theorem Sm.pnt (S:Sm K Z Θ env C σ H):∀a∈aR Z Θ env σ,NT (H a):=fun a m=>by
 rcases List.mem_append.mp m with m | m
 ·exact S.dom a m
 ·rcases List.mem_append.mp m with m | m
  ·exact S.cell.dom a m
  ·obtain ⟨i,d,e1,e2⟩:=cO.mp m;obtain ⟨v,e3,b,e4,r⟩:=S.slot i _ e1;rw [e2] at e3;cases e3;cases e4;exact r.nt
theorem Sm.Iu (S:Sm K Z Θ env C σ H):∀a∈aR Z Θ env σ,H a≠none:=fun a m=>(S.pnt a m).ne
theorem Sm.Oa (S:Sm K Z Θ env C σ H):∀a∈Θ,a∈aR Z Θ env σ:=fun a m=>List.mem_append_right _ (List.mem_append_left _ m)
theorem M8.same {E E':Hp} {x:Vl} {v:V} (s:bu E E') (h:∀d a,x=.ow d→v=.ref a→∀o,H a=some o→H' a=some o) (r:M8 K E H Θ x v):M8 K E' H' Θ x v:=by
 cases x with
 | im d=>exact RZ.same s r
 | ow d=>obtain ⟨a,e,q⟩:=r;exact ⟨a,e,q.same s (h d a rfl e)⟩
 | ce n=>exact r
 | sc ns=>obtain ⟨a,e,q⟩:=r;exact ⟨a,e,s.seq q⟩
theorem Sm.fZ (S:Sm K Z Θ env C σ H) {a:Addr} (m:a∈bD env σ):a∉Z∧a∉Θ:=by
 have h:=S.nd;rw [List.nodup_append] at h;obtain ⟨_,h2,h3⟩:=h;rw [List.nodup_append] at h2;refine ⟨fun z=>h3 a z a (List.mem_append_right _ m) rfl,fun z=>h2.2.2 a z a m rfl⟩
theorem Sm.go (S:Sm K Z Θ env C σ H) (k:bY Θ H H') (c:gB Θ C' H'):Sm K Z Θ env C' σ H' where
 len:=S.len
 nd:=S.nd
 dom:=fun a m=>by
  obtain ⟨u,e,n⟩:=S.dom a m;have h:=S.nd;rw [List.nodup_append] at h;exact ⟨u,k.keep _ _ e fun z=>h.2.2 a m a (List.mem_append_left _ z) rfl,n⟩
 slot:=fun i x e=>by
  obtain ⟨v,e1,r⟩:=S.slot i x e;refine ⟨v,e1,r.same (gA k S.Oa fun a m=>.inl m) fun d a ex ev o ho=>k.keep _ _ ho ?_⟩;subst ex ev;exact (S.fZ (cO.mpr ⟨i,d,e,e1⟩)).2
 cell:=c
theorem Sm.fz (S:Sm K Z Θ env C σ H) (f:Fz env env'):Sm K Z Θ env' C σ H:=by
 have sub:List.Sublist (aR Z Θ env' σ) (aR Z Θ env σ):=List.Sublist.append (List.Sublist.refl _) (List.Sublist.append (List.Sublist.refl _) f.own);have sm:bu (er (aR Z Θ env σ) H) (er (aR Z Θ env' σ) H):=gA (bY.refl [] H) (fun _ m=>nomatch m) fun a m=>.inl (sub.subset m)
 refine ⟨by rw [f.len];exact S.len,sub.nodup S.nd,S.dom,fun i x e0=>?_,S.cell⟩;rcases f.at e0 with e | ⟨d,e,ex⟩
 ·obtain ⟨v,e1,r⟩:=S.slot i x e;exact ⟨v,e1,r.same sm fun _ _ _ _ _ ho=>ho⟩
 ·subst ex;obtain ⟨v,e1,a,ev,r⟩:=S.slot i _ e;subst ev;refine ⟨_,e1,mq.rz (H:=H) (fun o ho=>?_) (r.same sm fun _ ho=>ho)⟩;unfold er;rw [if_neg]
  ·exact ho
  ·intro m;have hm:a∈bD env σ:=cO.mpr ⟨i,d,e,e1⟩;rcases List.mem_append.mp m with m | m
   ·exact (S.fZ hm).1 m
   ·rcases List.mem_append.mp m with m | m
    ·exact (S.fZ hm).2 m
    ·obtain ⟨j,d',e3,e4⟩:=cO.mp m;have nd:=S.nd;rw [List.nodup_append] at nd;have nd2:=nd.2.1;rw [List.nodup_append] at nd2;rcases f.at e3 with e5 | ⟨_,_,e5⟩
     ·have:=sW nd2.2.1 e e1 e5 e4;subst this;rw [e0] at e3;cases e3
     ·cases e5
end
section
variable {K:PySem.W.Frag} {Z Θ:List Addr} {env env':En} {C C':Ce} {σ:St} {H H':Hp} {a p:Addr}
theorem Sm.pop (S:Sm K (a::Z) Θ env C σ H):Sm K Z Θ env C σ H:=by
 have sm:bu (er (aR (a::Z) Θ env σ) H) (er (aR Z Θ env σ) H):=gA (bY.refl [] H) (fun _ m=>nomatch m) fun b m=>.inl (List.mem_cons_of_mem _ m)
 exact ⟨S.len,(List.nodup_cons.mp S.nd).2,fun b m=>S.dom b (List.mem_cons_of_mem _ m),fun i x e=>let ⟨v,e1,r⟩:=S.slot i x e;⟨v,e1,r.same sm fun _ _ _ _ _ h=>h⟩,S.cell⟩
theorem Sm.push (S:Sm K Z Θ env C σ H) (hp:H p=none) (o:HO) (ho:∀vs,o≠.tup vs):Sm K (p::Z) Θ env C σ (upd H p o):=by
 have k:bY Θ H (upd H p o):=bY.upd hp;have sm:bu (er (aR Z Θ env σ) H) (er (aR (p::Z) Θ env σ) (upd H p o)):=gA k S.Oa fun b m=>by
  rcases List.mem_cons.mp m with rfl | m
  ·exact .inr hp
  ·exact .inl m
 have c:gB Θ C (upd H p o):=⟨S.cell.len,fun n b ns e1 e2=>by
  have:=S.cell.at_ n b ns e1 e2;rw [aV (cJ this hp)];exact this⟩
 refine ⟨S.len,List.nodup_cons.mpr ⟨fun m=>S.Iu p m hp,S.nd⟩,fun b m=>?_,fun i x e=>?_,c⟩
 ·rcases List.mem_cons.mp m with rfl | m
  ·exact ⟨o,aP,ho⟩
  ·obtain ⟨u,e,n⟩:=S.dom b m;exact ⟨u,by rw [aV (cJ e hp)];exact e,n⟩
 ·obtain ⟨v,e1,r⟩:=S.slot i x e;refine ⟨v,e1,r.same sm fun d b ex ev o' ho=>?_⟩;rw [aV (cJ ho hp)];exact ho
theorem Sm.xH (S:Sm K Z Θ env C σ H) (s:bu H H'):Sm K Z Θ env C σ H':=
 S.go (bY.of s) ⟨S.cell.len,fun n b ns e1 e2=>s _ _ (S.cell.at_ n b ns e1 e2)⟩
def Res (K:PySem.W.Frag) (Z Θ:List Addr) (env:En) (C:Ce) (σ:St) (H H':Hp):Vl→V→Prop
 | .im d,v=>Sm K Z Θ env C σ H'∧RZ (er (aR Z Θ env σ) H') d v
 | .ow d,v=>∃a,v=.ref a∧H a=none∧Sm K (a::Z) Θ env C σ H'∧mq (er (aR (a::Z) Θ env σ) H') H' a d
 | .ce n,v=>Sm K Z Θ env C σ H'∧∃a,v=.ref a∧Θ[n]?=some a
 | .sc ns,v=>Sm K Z Θ env C σ H'∧∃a,v=.ref a∧di K (er (aR Z Θ env σ) H') a (ns.map V.int)
def Xr (E T:Hp):PyData→V→Prop
 | .list ds,v=>∃a vs,v=.ref a∧T a=some (.lst vs)∧gn E ds vs
 | .dict kvs,v=>∃a vs,v=.ref a∧VN T a kvs vs∧um E kvs vs
 | d,v=>RZ E d v
theorem Xr.same {E E' T T':Hp} {d:PyData} {v:V} (s:bu E E') (t:bu T T') (h:Xr E T d v):Xr E' T' d v:=by
 cases d <;> first | exact RZ.same s h | skip
 ·obtain ⟨a,vs,e,q,r⟩:=h;exact ⟨a,vs,e,t _ _ q,r.same s⟩
 ·obtain ⟨a,vs,e,q,r⟩:=h;exact ⟨a,vs,e,q.same t,r.same s⟩
theorem RZ.bor {E T:Hp} {d:PyData} {v:V} (t:bu E T) (h:RZ E d v):Xr E T d v:=by
 cases d <;> first | exact h | skip
 ·obtain ⟨a,vs,e,q,r⟩:=h;exact ⟨a,vs,e,t _ _ q,r⟩
 ·obtain ⟨a,vs,e,q,r⟩:=h;exact ⟨a,vs,e,q.same t,r⟩
abbrev dX (Z Θ:List Addr) (env:En) (σ:St) (H:Hp) (d:PyData) (v:V):Prop:=Xr (er (aR Z Θ env σ) H) (er Θ H) d v
theorem lB {Z Z':List Addr} {H:Hp} (h:∀a,a∈Z'→a∈Z):bu (er Z H) (er Z' H):=gA (bY.refl [] H) (fun _ m=>nomatch m) fun b m=>.inl (h b m)
theorem VP:bu (er (aR Z Θ env σ) H) (er Θ H):=lB fun a m=>List.mem_append_right _ (List.mem_append_left _ m)
theorem Fz.sub (f:Fz env env'):∀a,a∈aR Z Θ env' σ→a∈aR Z Θ env σ:=fun a m=>
 (List.Sublist.append (List.Sublist.refl _) (List.Sublist.append (List.Sublist.refl _) f.own)).subset m
theorem Ql (S:Sm K Z Θ env C σ H) (k:bY Θ H H') (f:Fz env env'):bu (er (aR Z Θ env σ) H) (er (aR Z Θ env' σ) H'):=gA k S.Oa fun a m=>.inl (f.sub a m)
theorem Qm (k:bY Θ H H'):bu (er Θ H) (er Θ H'):=gA k (fun _ m=>m) fun a m=>.inl m
theorem dX.go {d:PyData} {v:V} (h:dX Z Θ env σ H d v) (S:Sm K Z Θ env C σ H) (k:bY Θ H H') (f:Fz env env'):dX Z Θ env' σ H' d v:=Xr.same (Ql S k f) (Qm k) h
def dat:Vl→Option PyData
 | .im d=>some d
 | .ow d=>some d
 | .ce _=>none
 | .sc _=>none
theorem Res.sm {r:Vl} {v:V} (h:Res K Z Θ env C σ H H' r v):Sm K Z Θ env C σ H':=by
 cases r with
 | im d=>exact h.1
 | ow d=>obtain ⟨a,_,_,S,_⟩:=h;exact S.pop
 | ce n=>exact h.1
 | sc ns=>exact h.1
theorem Res.bor {r:Vl} {v:V} {d:PyData} (h:Res K Z Θ env C σ H H' r v) (e:dat r=some d):dX Z Θ env σ H' d v:=by
 cases r with
 | im d'=>cases e;exact RZ.bor VP h.2
 | ow d'=>
  cases e;obtain ⟨a,rfl,_,S,r⟩:=h;have na:a∉Θ:=fun m=>(List.nodup_cons.mp S.nd).1 (List.mem_append_right _ (List.mem_append_left _ m))
  have sm:bu (er (aR (a::Z) Θ env σ) H') (er (aR Z Θ env σ) H'):=lB fun b m=>List.mem_cons_of_mem _ m
  have ha:∀o,H' a=some o→er Θ H' a=some o:=fun o ho=>by unfold er;rw [if_neg na];exact ho
  cases d <;> first | exact r.elim | skip
  ·obtain ⟨vs,e,q⟩:=r;exact ⟨a,vs,rfl,ha _ e,q.same sm⟩
  ·obtain ⟨vs,e,q⟩:=r;refine ⟨a,vs,rfl,?_,q.same sm⟩;rcases e with ⟨ks,k,e⟩ | ⟨ks,k,e⟩
   ·exact .inl ⟨ks,k,ha _ e⟩
   ·exact .inr ⟨ks,k,ha _ e⟩
 | ce n=>cases e
 | sc ns=>cases e
def still:Vl→Vl
 | .ow d=>.im d
 | r=>r
theorem Res.still {r:Vl} {v:V} (h:Res K Z Θ env C σ H H' r v):Res K Z Θ env C σ H H' (still r) v:=by
 cases r with
 | ow d=>
  obtain ⟨a,rfl,hn,S,r⟩:=h;refine ⟨S.pop,mq.rz (H:=H') (fun o ho=>?_) (r.same (lB fun b m=>List.mem_cons_of_mem _ m) fun _ h=>h)⟩;unfold er;rw [if_neg (show ¬a∈aR Z Θ env σ from (List.nodup_cons.mp S.nd).1)];exact ho
 | im d=>exact h
 | ce n=>exact h
 | sc ns=>exact h
theorem Res.from {H0:Hp} {r:Vl} {v:V} (h:Res K Z Θ env C σ H H' r v) (k:bY Θ H0 H):Res K Z Θ env C σ H0 H' r v:=by
 cases r with
 | ow d=>
  obtain ⟨a,e,hn,S,r⟩:=h;exact ⟨a,e,k.none hn,S,r⟩
 | im d=>exact h
 | ce n=>exact h
 | sc ns=>exact h
theorem uF (S:Sm K Z Θ env C σ H) {a:Addr} {vs:List V} (h:H a=some (.tup vs)):er (aR Z Θ env σ) H a=some (.tup vs):=by
 unfold er;rw [if_neg]
 ·exact h
 ·intro m;obtain ⟨u,e,n⟩:=S.pnt a m;rw [h] at e;exact n vs (Option.some.inj e).symm
def rst (r:Vl) (env env':En):En:=match r with
 | .im d=>if zx d then env else env'
 | _=>env'
theorem Res.rst {r:Vl} {v:V} (S:Sm K Z Θ env C σ H) (k:bY Θ H H') (h:Res K Z Θ env' C' σ H H' r v):Res K Z Θ (rst r env env') C' σ H H' r v:=by
 cases r with
 | im d=>
  by_cases f:L2.zx d=true
  ·have:L2.rst (.im d) env env'=env:=if_pos f;rw [this];have S':=S.go k h.1.cell;exact ⟨S',h.2.zx (fun a vs e=>uF S' (bZ e)) f⟩
  ·have:L2.rst (.im d) env env'=env':=if_neg f;rw [this];exact h
 | ow d=>exact h
 | ce n=>exact h
 | sc ns=>exact h
theorem Fz.rst (r:Vl) (f:Fz env env'):Fz env (rst r env env'):=by
 cases r with
 | im d=>
  show Fz env (if L2.zx d then env else env');split
  ·exact Fz.refl _
  ·exact f
 | ow d=>exact f
 | ce n=>exact f
 | sc ns=>exact f
theorem bL {d:PyData} (S:Sm K Z Θ env C σ H) (f:fL d=true) {v:V} (hv:v=toV d):Res K Z Θ env C σ H H (.im d) v:=⟨S,by rw [hv];exact Ud f⟩
theorem fV {ds:List PyData} {vs:List V} (S:Sm K Z Θ env C σ H) (r:gn (er (aR Z Θ env σ) H) ds vs) (hp:H p=none):Res K Z Θ env C σ H (upd H p (.lst vs)) (.ow (.list ds)) (.ref p):=by
 refine ⟨p,rfl,hp,S.push hp _ (fun _ z=>nomatch z),vs,aP,r.same (gA (bY.upd (Θ:=Θ) hp) S.Oa fun b m=>?_)⟩;rcases List.mem_cons.mp m with rfl | m
 ·exact .inr hp
 ·exact .inl m
theorem Ug {kvs:List (PyData×PyData)} {vs:List V} {o:HO} (S:Sm K Z Θ env C σ H) (ho:∀vs,o≠.tup vs) (d:VN (upd H p o) p kvs vs) (r:um (er (aR Z Θ env σ) H) kvs vs) (hp:H p=none):Res K Z Θ env C σ H (upd H p o) (.ow (.dict kvs)) (.ref p):=by
 refine ⟨p,rfl,hp,S.push hp _ ho,vs,d,r.same (gA (bY.upd (Θ:=Θ) hp) S.Oa fun b m=>?_)⟩;rcases List.mem_cons.mp m with rfl | m
 ·exact .inr hp
 ·exact .inl m
theorem vV {ds:List PyData} {vs:List V} (S:Sm K Z Θ env C σ H) (r:gn (er (aR Z Θ env σ) H) ds vs) (hp:H p=none):Res K Z Θ env C σ H (upd H p (.tup vs)) (.im (.tuple ds)) (.ref p):=by
 have S':=S.xH (bu.upd (o:=.tup vs) hp);refine ⟨S',p,vs,rfl,?_,r.same (gA (bY.upd (Θ:=Θ) hp) S.Oa fun b m=>.inl m)⟩;unfold er;rw [if_neg (fun m=>S.Iu p m hp),aP]
end
theorem hide {P:Prop} (h:∀G:Prop,(P→G)→G):P:=h P id
inductive ZS {α β:Type} (o:Option α) (g:α→Option β) (y:β):Prop
 | mk (x:α) (h1:o=some x) (h2:g x=some y):ZS o g y
theorem cg {α β:Type} {o:Option α} {g:α→Option β} {y:β} (h:o.bind g=some y):ZS o g y:=by
 cases o with
 | none=>cases h
 | some x=>exact ⟨x,rfl,h⟩
def imO:Vl→Option PyData
 | .im y=>some y
 | _=>none
theorem xM {x:Vl} {y:PyData} (h:imO x=some y):x=.im y:=by
 cases x <;> cases h;rfl
def strD:PyData→Option Str
 | .str z=>some z
 | _=>none
theorem Uh {d:PyData} {z:Str} (h:strD d=some z):d=.str z:=by
 cases d <;> cases h;rfl
def intD:PyData→Option Int
 | .int k=>some k
 | _=>none
theorem Bt {d:PyData} {k:Int} (h:intD d=some k):d=.int k:=by
 cases d <;> cases h;rfl
abbrev FE:=En→Ce→Option (Vl×En×Ce)
abbrev FB:=En→Ce→Option (PyData×En×Ce)
abbrev FT:=En→Ce→Option (Bool×Ce)
abbrev Sy:=En→Ce→Option (List PyData×En×Ce)
abbrev FA:=En→Ce→Option (List Vl×En×Ce)
inductive tE (K:PySem.W.Frag) (f:FE) (σ:St) (H:Hp) (Q:VK):Prop
 | mk (Z Θ:List Addr) (env:En) (C:Ce) (r:Vl) (env':En) (C':Ce) (S:Sm K Z Θ env C σ H) (hf:f env C=some (r,env',C')) (q:∀v H',bY Θ H H'→Fz env env'→Res K Z Θ env' C' σ H H' r v→Q v H'):tE K f σ H Q
inductive mL (K:PySem.W.Frag) (f:FB) (σ:St) (H:Hp) (Q:VK):Prop
 | mk (Z Θ:List Addr) (env:En) (C:Ce) (d:PyData) (env':En) (C':Ce) (S:Sm K Z Θ env C σ H) (hf:f env C=some (d,env',C')) (q:∀v H',bY Θ H H'→Fz env env'→Sm K Z Θ env' C' σ H'→dX Z Θ env' σ H' d v→Q v H'):mL K f σ H Q
inductive nM (K:PySem.W.Frag) (f:FT) (σ:St) (H:Hp) (Q:Bool→Hp→Prop):Prop
 | mk (Z Θ:List Addr) (env:En) (C:Ce) (b:Bool) (C':Ce) (S:Sm K Z Θ env C σ H) (hf:f env C=some (b,C')) (q:∀H',bY Θ H H'→Sm K Z Θ env C' σ H'→Q b H'):nM K f σ H Q
inductive Iv (E T:Hp):List PyData→List V→Prop
 | nil:Iv E T [] []
 | cons {d:PyData} {v:V} {ds:List PyData} {vs:List V}:Xr E T d v→Iv E T ds vs→Iv E T (d::ds) (v::vs)
abbrev Kg (Z Θ:List Addr) (env:En) (σ:St) (H:Hp) (ds:List PyData) (vs:List V):Prop:=Iv (er (aR Z Θ env σ) H) (er Θ H) ds vs
inductive Ui (K:PySem.W.Frag) (f:Sy) (σ:St) (H:Hp) (Q:List V→Hp→Prop):Prop
 | mk (Z Θ:List Addr) (env:En) (C:Ce) (ds:List PyData) (env':En) (C':Ce) (S:Sm K Z Θ env C σ H) (hf:f env C=some (ds,env',C')) (q:∀vs H',bY Θ H H'→Fz env env'→Sm K Z Θ env' C' σ H'→Kg Z Θ env' σ H' ds vs→Q vs H'):Ui K f σ H Q
theorem PE.weak {X:Cx} {e:Expr} {t t':TE} (h:PE X e t) (w:∀σ H Q,t' σ H Q→t σ H Q):PE X e t':=fun pins s σ H Q I q=>h pins s σ H Q I (w σ H Q q)
theorem PT.weak {X:Cx} {e:Expr} {t t':TT} (h:PT X e t) (w:∀σ H Q,t' σ H Q→t σ H Q):PT X e t':=fun pins s σ H Q I q=>h pins s σ H Q I (w σ H Q q)
theorem PA.weak {X:Cx} {e:List Expr} {t t':TA} (h:PA X e t) (w:∀σ H Q,t' σ H Q→t σ H Q):PA X e t':=fun p pins s σ H Q I q=>h p pins s σ H Q I (w σ H Q q)
theorem PS.weak {X:Cx} {e:Stmt} {t t':TS} (h:PS X e t) (w:∀D σ H,t' D σ H→t D σ H):PS X e t':=fun pins s σ H D I q=>h pins s σ H D I (w D σ H q)
theorem vI.weak {X:Cx} {e:List Stmt} {t t':TS} (h:vI X e t) (w:∀D σ H,t' D σ H→t D σ H):vI X e t':=fun pins s σ H D I q=>h pins s σ H D I (w D σ H q)
theorem PW.weak {X:Cx} {e:Expr} {t t':TT} (h:PW X e t) (w:∀σ H Q,t' σ H Q→t σ H Q):PW X e t':=fun wh pins s σ H Q I q=>h wh pins s σ H Q I (w σ H Q q)
def fVar (i:Nat):FE:=fun env C=>match env[i]? with
 | some (some (.im d))=>some (.im d,env,C)
 | some (some (.ow d))=>some (.im d,env.set i (some (.im d)),C)
 | some (some (.ce n))=>some (.ce n,env,C)
 | some (some (.sc ns))=>some (.sc ns,env,C)
 | _=>none
def aG (i:Nat):FB:=fun env C=>match env[i]? with
 | some (some x)=>(dat x).map fun d=>(d,env,C)
 | _=>none
def fCst (d:PyData):FE:=fun env C=>some (.im d,env,C)
def aq (f:FE):FB:=fun env C=>match f env C with
 | some (r,e',C')=>(dat r).map fun d=>(d,e',C')
 | none=>none
theorem Qn:∀{env:En} {i:Nat} {d:PyData},env[i]?=some (some (.ow d))→Fz env (env.set i (some (.im d)))
 | [],i,d,e=>by simp at e
 | x::r,0,d,e=>by simp at e;subst e;exact ⟨.inr ⟨d,rfl,rfl⟩,Fz.refl r⟩
 | x::r,i + 1,d,e=>⟨.inl rfl,Qn (by simpa using e)⟩
section
variable {X:Cx} {e:Expr} {i:Nat}
theorem az (h:PE X e (wF i)):PE X e (tE X.K (fVar i)):=h.weak fun σ H Q aZ=>by
 obtain ⟨Z,Θ,env,C,r,env',C',S,hf,q⟩:=aZ;unfold fVar at hf;split at hf;all_goals first | (rename_i d hd;cases hf) | cases hf
 ·obtain ⟨v,e1,r⟩:=S.slot i _ hd;exact ⟨v,e1,q v H (bY.refl _ _) (Fz.refl _) ⟨S,r⟩⟩
 ·have f:=Qn hd;obtain ⟨v,e1,r⟩:=S.slot i _ hd;have S':=S.fz f;refine ⟨v,e1,q v H (bY.refl _ _) f ⟨S',?_⟩⟩;have hi:i < env.length:=by
   have:=List.getElem?_eq_some_iff.mp hd;exact this.1
  obtain ⟨v',e2,r'⟩:=S'.slot i (.im d) (by rw [List.getElem?_set,if_pos rfl,if_pos hi]);rw [e1] at e2;cases e2;exact r'
 ·obtain ⟨v,e1,r⟩:=S.slot i _ hd;exact ⟨v,e1,q v H (bY.refl _ _) (Fz.refl _) ⟨S,r⟩⟩
 ·obtain ⟨v,e1,r⟩:=S.slot i _ hd;exact ⟨v,e1,q v H (bY.refl _ _) (Fz.refl _) ⟨S,r⟩⟩
theorem ao (h:PE X e (wF i)):PE X e (mL X.K (aG i)):=h.weak fun σ H Q aZ=>by
 obtain ⟨Z,Θ,env,C,d,env',C',S,hf,q⟩:=aZ;unfold aG at hf;split at hf
 ·rename_i x hx;obtain ⟨v,e1,r⟩:=S.slot i _ hx;have ex:dat x=some d∧env=env'∧C=C':=by
   cases hd:dat x with
   | none=>rw [hd] at hf;cases hf
   | some d'=>rw [hd] at hf;cases hf;exact ⟨rfl,rfl,rfl⟩
  obtain ⟨ex,rfl,rfl⟩:=ex;refine ⟨v,e1,q v H (bY.refl _ _) (Fz.refl _) S ?_⟩;cases x with
  | im d'=>cases ex;exact RZ.bor VP r
  | ow d'=>
   cases ex;obtain ⟨a,rfl,r⟩:=r;have na:=(S.fZ (cO.mpr ⟨i,_,hx,e1⟩)).2;have ha:∀o,H a=some o→er Θ H a=some o:=fun o ho=>by unfold er;rw [if_neg na];exact ho
   cases d <;> first | exact r.elim | skip
   ·obtain ⟨vs,e,q⟩:=r;exact ⟨a,vs,rfl,ha _ e,q⟩
   ·obtain ⟨vs,e,q⟩:=r;refine ⟨a,vs,rfl,?_,q⟩;rcases e with ⟨ks,k,e⟩ | ⟨ks,k,e⟩
    ·exact .inl ⟨ks,k,ha _ e⟩
    ·exact .inr ⟨ks,k,ha _ e⟩
  | ce n=>cases ex
  | sc ns=>cases ex
 ·cases hf
theorem au {d:PyData} {v:V} (h:PE X e (tC v)) (f:fL d=true:=by rfl) (hv:v=toV d:=by rfl):PE X e (tE X.K (fCst d)):=h.weak fun σ H Q aZ=>by
 obtain ⟨Z,Θ,env,C,r,env',C',S,hf,q⟩:=aZ;cases hf;exact q v H (bY.refl _ _) (Fz.refl _) (bL S f hv)
theorem aj {f:FE} (h:PE X e (tE X.K f)):PE X e (mL X.K (aq f)):=h.weak fun σ H Q aZ=>by
 obtain ⟨Z,Θ,env,C,d,env',C',S,hf,q⟩:=aZ;unfold aq at hf;split at hf
 ·rename_i r e' C1 hr;cases hd:dat r with
  | none=>rw [hd] at hf;cases hf
  | some d'=>
   rw [hd] at hf;cases hf;exact ⟨Z,Θ,env,C,r,env',C',S,hr,fun v H' k f R=>q v H' k f R.sm (R.bor hd)⟩
 ·cases hf
end
def LIM:Nat:=1000000
theorem fM {n:Nat} (h:n≤LIM):n≤sizeLine:=by rw [sizeLine_eq];unfold LIM at h;omega
def oU (K:PySem.W.Frag) (r:R2) (op:PyData→PyData→Option Vl):Prop:=
 ∀(Z Θ:List Addr) (env:En) (C:Ce) (σ:St) (H:Hp) (x y:V) (dx dy:PyData) (res:Vl),Sm K Z Θ env C σ H→dX Z Θ env σ H dx x→dX Z Θ env σ H dy y→op dx dy=some res→
  ∀Q:VK,(∀v H',bY Θ H H'→Res K Z Θ env C σ H H' res v→Q v H')→r x y H Q
def aH (op:PyData→PyData→Option Vl) (fa fb:FB):FE:=fun env C=>match fa env C with
 | some (x,e1,C1)=>match fb e1 C1 with
  | some (y,e2,C2)=>match op x y with
   | some r=>some (r,rst r env e2,C2)
   | none=>none
  | none=>none
 | none=>none
theorem sX {K:PySem.W.Frag} {r:R2} {op:PyData→PyData→Option Vl} (L:oU K r op) {fa fb:FB}:∀σ H Q,tE K (aH op fa fb) σ H Q→Y8 r (mL K fa) (mL K fb) σ H Q:=by
 rintro σ H Q ⟨Z,Θ,env,C,res,env',C',S,hf,q⟩;unfold aH at hf;split at hf
 ·rename_i x e1 C1 h1;split at hf
  ·rename_i y e2 C2 h2;split at hf
   ·rename_i r0 h3;cases hf;refine ⟨Z,Θ,env,C,x,e1,C1,S,h1,fun v H1 k1 f1 S1 b1=>⟨Z,Θ,e1,C1,y,e2,C',S1,h2,fun u H2 k2 f2 S2 b2=>?_⟩⟩;refine L Z Θ e2 C' σ H2 v u x y res S2 (b1.go S1 k2 f2) b2 h3 Q fun z H3 k3 R=>?_
    have k:=(k1.trans k2).trans k3;exact q z H3 k ((f1.trans f2).rst res) ((R.from (k1.trans k2)).rst S k)
   ·cases hf
  ·cases hf
 ·cases hf
section
variable {X:Cx} {a b:Expr} {fa fb:FB} {pos:Pos} {r:R2} {op:PyData→PyData→Option Vl}
theorem aM {o:Operator} (ho:g8 X (binaryOp o) r) (L:oU X.K r op) (ha:PE X a (mL X.K fa)) (hb:PE X b (mL X.K fb)):PE X (.BinOp a o b pos) (tE X.K (aH op fa fb)):=(Y9 ho ha hb).weak (sX L)
theorem iD {o:CmpOp} (ho:g8 X (compareOp o) r) (L:oU X.K r op) (ha:PE X a (mL X.K fa)) (hb:PE X b (mL X.K fb)) (hm:behindInMarks o b=false):PE X (.Compare a [o] [b] pos) (tE X.K (aH op fa fb)):=(Tf ho ha hb hm).weak (sX L)
theorem bT (ho:N8 X r) (L:oU X.K r op) (ha:PE X a (mL X.K fa)) (hb:PE X b (mL X.K fb)) (hs:vP b):PE X (.Subscript a b pos) (tE X.K (aH op fa fb)):=(O4 ho ha hb hs).weak (sX L)
end
theorem oU.or {K:PySem.W.Frag} {r r':R2} {op op':PyData→PyData→Option Vl} (h:oU K r op) (h':oU K r' op'):oU K (fun x y H Q=>r x y H Q∨r' x y H Q) (fun x y=>match op x y with | some z=>some z | none=>op' x y):=by
 intro Z Θ env C σ H x y dx dy res S bx j4 e Q q;cases h1:op dx dy with
 | some z=>
  simp only [h1] at e;cases e;exact .inl (h Z Θ env C σ H x y dx dy _ S bx j4 h1 Q q)
 | none=>
  simp only [h1] at e;exact .inr (h' Z Θ env C σ H x y dx dy res S bx j4 e Q q)
section
variable {K:PySem.W.Frag} {Z Θ:List Addr} {env:En} {C:Ce} {σ:St} {H:Hp} {x:V}
theorem dX.int {i:Int} (h:dX Z Θ env σ H (.int i) x):x=.int i:=h
theorem dX.str {i:Str} (h:dX Z Θ env σ H (.str i) x):x=.str i:=h
theorem dX.tup {ds:List PyData} (h:dX Z Θ env σ H (.tuple ds) x):∃a vs,x=.ref a∧H a=some (.tup vs)∧gn (er (aR Z Θ env σ) H) ds vs:=by
 obtain ⟨a,vs,e,q,r⟩:=h;exact ⟨a,vs,e,bZ q,r⟩
theorem dX.lst {ds:List PyData} (h:dX Z Θ env σ H (.list ds) x):∃a vs,x=.ref a∧H a=some (.lst vs)∧gn (er (aR Z Θ env σ) H) ds vs:=by
 obtain ⟨a,vs,e,q,r⟩:=h;exact ⟨a,vs,e,bZ q,r⟩
theorem dX.dct {kvs:List (PyData×PyData)} (h:dX Z Θ env σ H (.dict kvs) x):∃a vs,x=.ref a∧VN H a kvs vs∧um (er (aR Z Θ env σ) H) kvs vs:=by
 obtain ⟨a,vs,e,q,r⟩:=h;exact ⟨a,vs,e,q.same (zW _ _),r⟩
theorem dX.flat {d:PyData} (f:fL d=true) (h:dX Z Θ env σ H d x):x=toV d:=by
 cases d <;> first | exact h | cases f
theorem dX.rx {d:PyData} (n:Qk d=true) (h:dX Z Θ env σ H d x):RX H d x:=by
 cases d <;> first | exact h | skip
 ·obtain ⟨a,vs,e,q,r⟩:=h;exact ⟨a,vs,e,bZ q,(r.same (zW _ _)).rx n⟩
 ·obtain ⟨a,vs,e,q,r⟩:=h;exact ⟨a,vs,e,bZ q,(r.same (zW _ _)).rx n⟩
 ·cases n
end
section
variable {X:Cx}
def aY:PyData→PyData→Option Vl
 | .int i,.int j=>some (.im (.int (i + j)))
 | .str x,.str y=>if x.length + y.length≤LIM then some (.im (.str (x++y))) else none
 | .list xs,.list ys=>if xs.length + ys.length≤LIM then some (.ow (.list (xs++ys))) else none
 | .tuple xs,.tuple ys=>if xs.isEmpty then some (.im (.tuple ys)) else if xs.length + ys.length≤LIM then some (.im (.tuple (xs++ys))) else none
 | _,_=>none
def VR (K:PySem.W.Frag):R2:=fun x y H Q=>∃a b ys,x=.ref a∧y=.ref b∧jD K H a []∧jD K H b ys∧Q (.ref b) H
theorem Uj {X:Cx}:g8 X (binaryOp .Add) (VR X.K):=by
 intro pins s σ H x y v u Q I rx ry h;obtain ⟨a,b,ys,rfl,rfl,ha,hb,q⟩:=h;cases rx;cases ry;obtain ⟨its,r1,p1,_⟩:=I.tuple ha;obtain ⟨its2,r2,p2,_⟩:=I.tuple hb;obtain ⟨⟨cls,dd,data,sl⟩,ho,hc,n,hd⟩:=id p1;obtain ⟨⟨cls2,dd2,data2,sl2⟩,ho2,hc2,n2,hd2⟩:=id p2;simp only at hc hd hc2 hd2;subst hc hd hc2 hd2;exact concat_meets ⟨_,ho,rfl⟩ ⟨_,ho2,rfl⟩ noFill_tuple_add seq_tuple_add PySem.F.slot_tuple_add PySem.F.entry_tuple_add (PySem.F.args_tuple_add_2 _ _)
  (tuple_addW0 a b its.toArray its2.toArray n n2 dd dd2 sl sl2 (by cases r1;rfl)) ⟨ho,ho2,⟨.ref b,H,I,rfl,q⟩⟩
def V0 (K:PySem.W.Frag):R2:=fun x y H Q=>(((Mf fun i j=>.int (i + j)) x y H Q∨∃i j,x=.str i∧y=.str j∧i.length + j.length≤sizeLine∧Q (.str (i++j)) H)∨Zu x y H Q)∨VR K x y H Q∨Vz K x y H Q
theorem bf:g8 X (binaryOp .Add) (V0 X.K):=((WN.or Hw).or Xb).or (Uj.or Tr)
theorem bM {K:PySem.W.Frag}:oU K (V0 K) aY:=by
 intro Z Θ env C σ H x y dx dy res S bx j4 e Q q;unfold aY at e;split at e
 ·cases e;cases bx.int;cases j4.int;exact .inl (.inl (.inl ⟨_,_,rfl,rfl,q _ _ (bY.refl _ _) (bL S rfl rfl)⟩))
 ·split at e
  ·rename_i hl;cases e;cases bx.str;cases j4.str;exact .inl (.inl (.inr ⟨_,_,rfl,rfl,fM hl,q _ _ (bY.refl _ _) (bL S rfl rfl)⟩))
  ·cases e
 ·split at e
  ·rename_i hl;cases e;obtain ⟨a,vs,rfl,ha,r1⟩:=bx.lst;obtain ⟨b,ws,rfl,hb,r2⟩:=j4.lst;exact .inl (.inr ⟨a,b,vs,ws,rfl,rfl,ha,hb,by rw [bW r1,bW r2];exact fM hl,fun p hp=>q _ _ (bY.upd hp) (fV S (mY r1 r2) hp)⟩)
  ·cases e
 ·split at e
  ·rename_i xs ys he;cases e;have:xs=[]:=List.isEmpty_iff.mp he;subst this;have by2:=j4;obtain ⟨a,vs,rfl,ha,r1⟩:=bx.tup;obtain ⟨b,ws,rfl,hb,r2⟩:=j4.tup;cases (show vs=[] from r1);exact .inr (.inl ⟨a,b,ws,rfl,rfl,jD.of ha,jD.of hb,q _ _ (bY.refl _ _) ⟨S,by2⟩⟩)
  split at e
  ·rename_i xs ys he hl;cases e;obtain ⟨a,vs,rfl,ha,r1⟩:=bx.tup;obtain ⟨b,ws,rfl,hb,r2⟩:=j4.tup;have l1:=bW r1;have l2:=bW r2;have hv:vs≠[]:=fun z=>by
    subst z;cases xs with
    | nil=>exact he rfl
    | cons _ _=>cases l1
   refine .inr (.inr ⟨a,b,vs,ws,rfl,rfl,jD.of ha,jD.of hb,hv,by rw [l1,l2];exact fM hl,fun z=>?_,fun _ p hp=>q _ _ (bY.upd hp) (vV S (mY r1 r2) hp)⟩);subst z;have:ys=[]:=List.eq_nil_of_length_eq_zero l2.symm;subst this;rw [List.append_nil] at q;refine q _ _ (bY.refl _ _) ⟨S,?_⟩;exact bx
  ·cases e
 ·cases e
def vm:PyData→PyData→Option Vl
 | .int i,.int j=>some (.im (.int (i - j)))
 | _,_=>none
theorem Bu {K:PySem.W.Frag} {g:Int→Int→V} {op:PyData→PyData→Option Vl} (h:∀dx dy res,op dx dy=some res→∃i j d,dx=.int i∧dy=.int j∧res=.im d∧fL d=true∧g i j=toV d):oU K (Mf g) op:=by
 intro Z Θ env C σ H x y dx dy res S bx j4 e Q q;obtain ⟨i,j,d,rfl,rfl,rfl,f,hv⟩:=h _ _ _ e;cases bx.int;cases j4.int;exact ⟨_,_,rfl,rfl,q _ _ (bY.refl _ _) (bL S f hv)⟩
theorem Bv {K:PySem.W.Frag} {Cn:Int→Int→Prop} {g:Int→Int→V} {op:PyData→PyData→Option Vl} (h:∀dx dy res,op dx dy=some res→∃i j d,dx=.int i∧dy=.int j∧res=.im d∧fL d=true∧g i j=toV d∧Cn i j):oU K (rI Cn g) op:=by
 intro Z Θ env C σ H x y dx dy res S bx j4 e Q q;obtain ⟨i,j,d,rfl,rfl,rfl,f,hv,c⟩:=h _ _ _ e;cases bx.int;cases j4.int;exact ⟨_,_,rfl,rfl,c,q _ _ (bY.refl _ _) (bL S f hv)⟩
theorem xN {K:PySem.W.Frag}:oU K (Mf fun i j=>.int (i - j)) vm:=Bu fun dx dy res e=>by
 unfold vm at e;split at e <;> cases e;exact ⟨_,_,_,rfl,rfl,rfl,rfl,rfl⟩
def fO:PyData→PyData→Option Vl
 | .int i,.int j=>if 0 < j then some (.im (.int (i % j))) else none
 | _,_=>none
theorem jJ {K:PySem.W.Frag}:oU K (rI (fun _ j=>0 < j) fun i j=>.int (i % j)) fO:=Bv fun dx dy res e=>by
 unfold fO at e;split at e
 ·split at e
  ·rename_i h;cases e;exact ⟨_,_,_,rfl,rfl,rfl,rfl,rfl,h⟩
  ·cases e
 ·cases e
def oV:PyData→PyData→Option Vl
 | .int i,.int j=>if 0 < j∧j < 1073741824 then some (.im (.int (i / j))) else none
 | _,_=>none
theorem Bw {K:PySem.W.Frag}:oU K (rI Zc fun i j=>.int (i / j)) oV:=Bv fun dx dy res e=>by
 unfold oV at e;split at e
 ·split at e
  ·rename_i h;cases e;exact ⟨_,_,_,rfl,rfl,rfl,rfl,rfl,h⟩
  ·cases e
 ·cases e
def vo:PyData→PyData→Option Vl
 | .int i,.int j=>if 0≤j∧j≤1000000∧i.natAbs < 2 ^ 64 then some (.im (.int (i ^ j.toNat))) else none
 | _,_=>none
theorem Iw {K:PySem.W.Frag}:oU K (rI Zd fun i j=>.int (i ^ j.toNat)) vo:=Bv fun dx dy res e=>by
 unfold vo at e;split at e
 ·split at e
  ·rename_i h;cases e;exact ⟨_,_,_,rfl,rfl,rfl,rfl,rfl,h⟩
  ·cases e
 ·cases e
def eN:PyData→PyData→Option Vl
 | .int i,.int j=>if (-(2 ^ 64) < i∧i < 2 ^ 64)∨(-(2 ^ 64) < j∧j < 2 ^ 64) then some (.im (.int (i * j))) else none
 | _,_=>none
theorem iG {K:PySem.W.Frag}:oU K (rI Ov fun i j=>.int (i * j)) eN:=Bv fun dx dy res e=>by
 unfold eN at e;split at e
 ·split at e
  ·rename_i h;cases e;exact ⟨_,_,_,rfl,rfl,rfl,rfl,rfl,h⟩
  ·cases e
 ·cases e
end
section
variable {X:Cx}
def Xu:PyData→PyData→Option Bool
 | .int i,.int j=>some (i==j)
 | .str x,.str y=>some (x==y)
 | .bool a,.bool b=>some (a==b)
 | d,e=>if Qk d&&Qk e&&(PySem.SeqAt.shaped d&&PySem.SeqAt.shaped e) then some (PyData.eqv d e) else none
def mZ (d e:PyData):Option Vl:=(Xu d e).map fun b=>.im (.bool b)
def uG (d e:PyData):Option Vl:=(Xu d e).map fun b=>.im (.bool (!b))
theorem Iz (hu:X.A.units + 64 < cLine):g8 X (compareOp .Eq) (fun x y H Q=>∃d e,RX H d x∧RX H e y∧PySem.SeqAt.shaped d=true∧PySem.SeqAt.shaped e=true∧Q (.bl (PyData.eqv d e)) H):=by
 intro pins s σ H x y v u Q I rx ry h;obtain ⟨d,e,hd,he,h1,h2,q⟩:=h;obtain ⟨as,ra⟩:=RD.reads I (hd.rd (K:=X.K)) rx;obtain ⟨bs,rb⟩:=RD.reads I (he.rd (K:=X.K)) ry;exact PySem.SeqAt.compareEq_shaped ra rb h1 h2 hu ⟨.bl _,H,I,rfl,q⟩
def ZV:R2:=fun x y H Q=>rEq x y H Q∨∃d e,RX H d x∧RX H e y∧PySem.SeqAt.shaped d=true∧PySem.SeqAt.shaped e=true∧Q (.bl (PyData.eqv d e)) H
def ZW:R2:=fun x y H Q=>rNe x y H Q∨∃d e,RX H d x∧RX H e y∧PySem.SeqAt.shaped d=true∧PySem.SeqAt.shaped e=true∧Q (.bl (!PyData.eqv d e)) H
theorem lC (hu:X.A.units + 64 < cLine):g8 X (compareOp .Eq) ZV:=Ze.or (Iz hu)
theorem xO (hu:X.A.units + 64 < cLine):g8 X (compareOp .NotEq) ZW:=Zf.or (Ii hu)
theorem z7 {d e:PyData} {b:Bool} (h:Xu d e=some b):(fL d=true∧fL e=true∧WR (toV d) (toV e)=true∧b=decide (toV d=toV e))∨(Qk d=true∧Qk e=true∧PySem.SeqAt.shaped d=true∧PySem.SeqAt.shaped e=true∧b=PyData.eqv d e):=by
 unfold Xu at h;split at h
 ·cases h;exact .inl ⟨rfl,rfl,rfl,Ax.symm⟩
 ·cases h;exact .inl ⟨rfl,rfl,rfl,Ay.symm⟩
 ·cases h;exact .inl ⟨rfl,rfl,rfl,Ht.symm⟩
 ·split at h
  ·rename_i q;cases h;rw [Bool.and_eq_true,Bool.and_eq_true,Bool.and_eq_true] at q;exact .inr ⟨q.1.1,q.1.2,q.2.1,q.2.2,rfl⟩
  ·cases h
theorem qF {K:PySem.W.Frag}:oU K ZV mZ:=by
 intro Z Θ env C σ H x y dx dy res S bx j4 e Q q;unfold mZ at e;cases h:Xu dx dy with
 | none=>rw [h] at e;cases e
 | some b=>
  rw [h] at e;cases e;have fin:=q (.bl b) H (bY.refl _ _) (bL S rfl rfl);rcases z7 h with ⟨f1,f2,sc,eb⟩ | ⟨n1,n2,s1,s2,eb⟩
  ·rw [bx.flat f1,j4.flat f2];rw [eb] at fin;exact .inl ⟨sc,fin⟩
  ·rw [eb] at fin;exact .inr ⟨dx,dy,bx.rx n1,j4.rx n2,s1,s2,fin⟩
theorem Ez {K:PySem.W.Frag}:oU K ZW uG:=by
 intro Z Θ env C σ H x y dx dy res S bx j4 e Q q;unfold uG at e;cases h:Xu dx dy with
 | none=>rw [h] at e;cases e
 | some b=>
  rw [h] at e;cases e;have fin:=q (.bl (!b)) H (bY.refl _ _) (bL S rfl rfl);rcases z7 h with ⟨f1,f2,sc,eb⟩ | ⟨n1,n2,s1,s2,eb⟩
  ·rw [bx.flat f1,j4.flat f2];rw [eb] at fin;exact .inl ⟨sc,fin⟩
  ·rw [eb] at fin;exact .inr ⟨dx,dy,bx.rx n1,j4.rx n2,s1,s2,fin⟩
def strLt (x y:Str):Bool:=decide (x.cps.toList < y.cps.toList)
def V1 (xs ys:List PyData):Option Bool:=match keysOf xs,keysOf ys with
 | some ks,some js=>if ks.map eX=js.map eX then some (iC ks js) else none
 | _,_=>none
def By:PyData→PyData→Option Vl
 | .int i,.int j=>some (.im (.bool (decide (i < j))))
 | .str x,.str y=>some (.im (.bool (strLt x y)))
 | .tuple xs,.tuple ys=>(V1 xs ys).map fun b=>.im (.bool b)
 | _,_=>none
theorem jE {E:Hp}:∀{ds:List PyData} {ks:List Key} {vs:List V},keysOf ds=some ks→gn E ds vs→vs=ks.map kV
 | [],ks,vs,h,r=>by cases h;exact r
 | d::ds,ks,vs,h,r=>by
  unfold keysOf at h;split at h
  ·rename_i k t h1 h2;cases h;obtain ⟨u,w,e1,q,s⟩:=r;rw [e1,jE h2 s];have:u=kV k:=by
    cases d <;> first | (cases h1;exact q) | cases h1
   rw [this];rfl
  ·cases h
def abx:R2:=fun x y H Q=>(∃a b,x=kV a∧y=kV b∧eX a=eX b∧Q (.bl (kLt a b)) H)∨∃a b ks js,x=.ref a∧y=.ref b∧H a=some (.tup (ks.map kV))∧H b=some (.tup (js.map kV))∧ks.map eX=js.map eX∧Q (.bl (iC ks js)) H
theorem Qo {K:PySem.W.Frag}:oU K abx By:=by
 intro Z Θ env C σ H x y dx dy res S bx j4 e Q q;unfold By at e;split at e
 ·cases e;cases bx.int;cases j4.int;exact .inl ⟨.inl _,.inl _,rfl,rfl,rfl,q _ _ (bY.refl _ _) (bL S rfl rfl)⟩
 ·cases e;cases bx.str;cases j4.str;exact .inl ⟨.inr _,.inr _,rfl,rfl,rfl,q _ _ (bY.refl _ _) (bL S rfl rfl)⟩
 ·rename_i xs ys;unfold V1 at e;split at e
  ·rename_i ks js h1 h2;split at e
   ·rename_i ht;cases e;obtain ⟨a,vs,rfl,ha,r1⟩:=bx.tup;obtain ⟨b,ws,rfl,hb,r2⟩:=j4.tup;rw [jE h1 r1] at ha;rw [jE h2 r2] at hb;exact .inr ⟨a,b,ks,js,rfl,rfl,ha,hb,ht,q _ _ (bY.refl _ _) (bL S rfl rfl)⟩
   ·cases e
  ·cases e
 ·cases e
def uH:PyData→PyData→Option Vl
 | .int i,.int j=>some (.im (.bool (decide (i≤j))))
 | .str x,.str y=>some (.im (.bool (!strLt y x)))
 | _,_=>none
def ZX:R2:=fun x y H Q=>(Mf fun i j=>.bl (decide (i≤j))) x y H Q∨∃i j,x=.str i∧y=.str j∧Q (.bl (!(decide (j.cps.toList < i.cps.toList)))) H
theorem uI:g8 X (compareOp .LtE) ZX:=Zg.or Mz
theorem z8 {K:PySem.W.Frag}:oU K ZX uH:=by
 intro Z Θ env C σ H x y dx dy res S bx j4 e Q q;unfold uH at e;split at e
 ·cases e;cases bx.int;cases j4.int;exact .inl ⟨_,_,rfl,rfl,q _ _ (bY.refl _ _) (bL S rfl rfl)⟩
 ·cases e;cases bx.str;cases j4.str;exact .inr ⟨_,_,rfl,rfl,q _ _ (bY.refl _ _) (bL S rfl rfl)⟩
 ·cases e
def BJ:PyData→PyData→Option Vl
 | .int i,.int j=>some (.im (.bool (decide (j < i))))
 | _,_=>none
def Uk:PyData→PyData→Option Vl
 | .int i,.int j=>some (.im (.bool (decide (j≤i))))
 | _,_=>none
theorem EY {K:PySem.W.Frag}:oU K (Mf fun i j=>.bl (decide (j < i))) BJ:=Bu fun dx dy res e=>by
 unfold BJ at e;split at e <;> cases e;exact ⟨_,_,_,rfl,rfl,rfl,rfl,rfl⟩
theorem ZZ {K:PySem.W.Frag}:oU K (Mf fun i j=>.bl (decide (j≤i))) Uk:=Bu fun dx dy res e=>by
 unfold Uk at e;split at e <;> cases e;exact ⟨_,_,_,rfl,rfl,rfl,rfl,rfl⟩
def isNone:PyData→Bool
 | .none=>true
 | _=>false
def Kh (d e:PyData):Option Vl:=if isNone e then some (.im (.bool (isNone d))) else none
def xP (d e:PyData):Option Vl:=if isNone e then some (.im (.bool (!isNone d))) else none
theorem sY {Z Θ:List Addr} {env:En} {σ:St} {H:Hp} {x:V} {d:PyData} (h:dX Z Θ env σ H d x):decide (x=V.non)=isNone d:=by
 cases d <;> first
  | (cases (show x=_ from h);rfl)
  | (obtain ⟨a,vs,e,_⟩:=h;subst e;rfl)
theorem Xv {K:PySem.W.Frag}:oU K (fun x y H Q=>y=.non∧Q (.bl (decide (x=.non))) H) Kh:=by
 intro Z Θ env C σ H x y dx dy res S bx j4 e Q q;unfold Kh at e;split at e
 ·rename_i hn;cases e;have hy:y=.non:=of_decide_eq_true ((sY j4).trans hn);exact ⟨hy,by rw [sY bx];exact q _ _ (bY.refl _ _) (bL S rfl rfl)⟩
 ·cases e
theorem Ul {K:PySem.W.Frag}:oU K (fun x y H Q=>y=.non∧Q (.bl (!decide (x=.non))) H) xP:=by
 intro Z Θ env C σ H x y dx dy res S bx j4 e Q q;unfold xP at e;split at e
 ·rename_i hn;cases e;have hy:y=.non:=of_decide_eq_true ((sY j4).trans hn);exact ⟨hy,by rw [sY bx];exact q _ _ (bY.refl _ _) (bL S rfl rfl)⟩
 ·cases e
end
section
variable {X:Cx} {pins:List (Addr×Obj)} {σ:St} {H:Hp} {s:Shared} {a b:Addr}
theorem Inv.reK (I:Inv X pins σ H s) (h:H a=some (.dK [])):Inv X pins σ (upd H a (.dT [])) s:=by
 obtain ⟨z,hm,vs,r,o,es,ep,h1,h2,h3,h4,h5,h6⟩:=I.hok a _ h;cases r;have e0:es.toList=[]:=by
  cases hh:es.toList with
  | nil=>rfl
  | cons x xs=>rw [hh] at h5;cases h5
 have:=mU (t':=s.toks) (ob:=.dT []) I (by rw [h];trivial) (Heap.SameBut.refl a s.heap) ⟨_,h1⟩ ⟨Nat.zero_le _,hm,[],.nil,o,es,ep,h1,h2,h3,e0,List.nodup_nil⟩;exact this
theorem Inv.reT (I:Inv X pins σ (upd H a (.dT [])) s) (h:H a=some (.dK [])):Inv X pins σ H s:=by
 obtain ⟨z,hm,xs,r,o,es,ep,h1,h2,h3,h4,h5⟩:=I.hok a _ aP;cases r;have e0:es=#[]:=by
  cases es;simp at h4;rw [h4]
 subst e0;have:=mU (t':=s.toks) (ob:=.dK []) I (by rw [aP];trivial) (Heap.SameBut.refl a s.heap) ⟨_,h1⟩ (Bh (Nat.zero_le _) hm .nil ⟨o,#[],ep,h1,h2,h3,fun i hi=>absurd hi (by simp),.nil,List.nodup_nil⟩);rw [JM] at this;have e:upd H a (.dK [])=H:=by
  funext b;by_cases hb:b=a
  ·subst hb;rw [aP,h]
  ·exact aV hb
 rw [e] at this;exact this
end
def Qp (H:Hp) (a:Addr) (y:V) (r:Option V):Prop:=qx H a y r∨(H a=some (.dK [])∧(∃(b:Addr) (ks:List Key),y=.ref b∧H b=some (.tup (ks.map kV)))∧r=none)
section
variable {X:Cx} {pins:List (Addr×Obj)} {σ:St} {H:Hp} {s:Shared} {a:Addr} {y v:V} {u r:Value} {o:Option V} {A:Around} {E:Value→Shared→Prop}
theorem Qp.re (ha:H a=some (.dK [])) {b:Addr} {ks:List Key} (hb:H b=some (.tup (ks.map kV))):qx (upd H a (.dT [])) a (.ref b) none:=by
 have:(upd H a (.dT [])) b=some (.tup (ks.map kV)):=by rw [aV (Oc hb ha (fun z=>nomatch z))];exact hb
 exact qx.t (kvs:=[]) (k:=ks) aP this
theorem Z0 {Q:Value→Shared→Prop} (hu:A.units + 1 < cLine) (I:Inv X pins σ H s) (g:Qp H a y o) (ry:RelV y u) (h:∀s',Inv X pins σ H s'→Q (.bool o.isSome) s'):wpAny (model X.prog X.w) A (compareOp .In u (.ref a)) Q E s:=by
 rcases g with g | ⟨ha,⟨b,ks,rfl,hb⟩,rfl⟩
 ·exact Zw hu I g ry h
 ·exact Zw hu (I.reK ha) (Qp.re ha hb) ry fun s' I'=>h s' (I'.reT ha)
theorem Qq {Q:Value→Shared→Prop} (hu:A.units + 1 < cLine) (I:Inv X pins σ H s) (g:Qp H a y o) (ry:RelV y u) (h:∀s',Inv X pins σ H s'→Q (.bool (!o.isSome)) s'):wpAny (model X.prog X.w) A (compareOp .NotIn u (.ref a)) Q E s:=by
 rcases g with g | ⟨ha,⟨b,ks,rfl,hb⟩,rfl⟩
 ·exact J1 hu I g ry h
 ·exact J1 hu (I.reK ha) (Qp.re ha hb) ry fun s' I'=>h s' (I'.reT ha)
theorem Xw (hu:X.A.units + 1 < cLine):g8 X (compareOp .In) (fun y x H Q=>∃a o,x=.ref a∧Qp H a y o∧Q (.bl o.isSome) H):=by
 intro pins s σ H x y v u Q I rx ry h;obtain ⟨a,o,rfl,g,q⟩:=h;cases ry;exact Z0 hu I g rx fun s' I'=>⟨.bl _,H,I',rfl,q⟩
theorem M9 (hu:X.A.units + 1 < cLine):g8 X (compareOp .NotIn) (fun y x H Q=>∃a o,x=.ref a∧Qp H a y o∧Q (.bl (!o.isSome)) H):=by
 intro pins s σ H x y v u Q I rx ry h;obtain ⟨a,o,rfl,g,q⟩:=h;cases ry;exact Qq hu I g rx fun s' I'=>⟨.bl _,H,I',rfl,q⟩
theorem Um (hu:X.A.units + 1 < cLine):N8 X (fun x y H Q=>∃a v,x=.ref a∧qx H a y (some v)∧Q v H):=by
 intro value slice pins s σ H x y v u Q I rx ry h hs;obtain ⟨a,z,rfl,g,q⟩:=h;cases rx;have hT:=Ec I g;have h2:wpAny (model X.prog X.w) X.A (getItem (.ref a) u) (EP X pins σ Q) X.xe s:=Ms hu I g ry fun w' s' I' r'=>⟨z,H,I',r',q⟩
 unfold subscriptTail;refine wpAny_bind ?_;rw [getitemInPython_of_ne hT.not_modules];refine wpAny_bind (wpAny_specialOf hT PySem.F.slot_dict_getitem.lookup ?_);have fin:wpAny (model X.prog X.w) X.A (subscripted slice false (.ref a) u) (fun r s₃=>wpAny (model X.prog X.w) X.A (letTemporaryGo value (.ref a) r >>= fun _=>pure r) (EP X pins σ Q) X.xe s₃) X.xe s:=by
  rw [hs];exact wpAny_operating (wpAny_mono h2 (fun r s₃ h₃=>wpAny_bind (wpAny_letTemporaryGo (wpAny_pure h₃))) fun _ _ x=>x)
 first
  | exact wpAny_pure (wpAny_bind fin)
  | exact wpAny_bind (wpAny_pure (wpAny_bind fin))
  | exact wpAny_bind fin
end
def nO {κ:Type} [DecidableEq κ] (f:PyData→Option κ) (k:κ):List (PyData×PyData)→Option PyData
 | []=>none
 | p::r=>if f p.1=some k then some p.2 else nO f k r
def nP (kvs:List (PyData×PyData)) (d:PyData):Option (Option PyData):=match c7 d with
 | some k=>if (cM c7 kvs).isSome then some (nO c7 k kvs) else none
 | none=>match nJ d with
  | some ks=>if (cM nJ kvs).isSome then some (nO nJ ks kvs) else none
  | none=>none
theorem xQ {κ:Type} [DecidableEq κ] {f:PyData→Option κ} {k:κ} {E:Hp}:∀{kvs:List (PyData×PyData)} {ks:List κ} {vs:List V},cM f kvs=some ks→um E kvs vs→
  (∃d v,nO f k kvs=some d∧qw (ks.zip vs) k=some v∧RZ E d v)∨(nO f k kvs=none∧qw (ks.zip vs) k=none)
 | [],ks,vs,h,r=>by
  cases h;cases (show vs=[] from r);exact .inr ⟨rfl,rfl⟩
 | (p,d)::kvs,ks,vs,h,r=>by
  unfold cM at h;split at h
  ·rename_i k' t h1 h2;cases h;obtain ⟨v,w,rfl,q,s⟩:=r;by_cases e:k'=k
   ·subst e;refine .inl ⟨d,v,?_,?_,q⟩
    ·unfold nO;rw [if_pos h1]
    ·exact su (p:=(k',v)) rfl
   ·have e1:nO f k ((p,d)::kvs)=nO f k kvs:=by
     show (if f p=some k then some d else nO f k kvs)=_;rw [if_neg];intro z;rw [h1] at z;exact e (Option.some.inj z)
    have e2:qw ((k'::t).zip (v::w)) k=qw (t.zip w) k:=sy (p:=(k',v)) e;rw [e1,e2];exact xQ h2 s
  ·cases h
theorem jb {κ:Type} {f:PyData→Option κ}:∀{kvs:List (PyData×PyData)} {ks:List κ},cM f kvs=some ks→ks.length=kvs.length
 | [],ks,h=>by cases h;rfl
 | p::kvs,ks,h=>by
  unfold cM at h;split at h
  ·rename_i k' t h1 h2;cases h;rw [List.length_cons,List.length_cons,jb h2]
  ·cases h
theorem Qs {E:Hp} {d:PyData} {k:Key} {v:V} (h:c7 d=some k) (r:RZ E d v):v=kV k:=by
 cases d <;> first | (cases h;exact r) | cases h
theorem Qt {d:PyData} {k:Key} {ks:List Key} (h:c7 d=some k) (g:nJ d=some ks):False:=by
 cases d <;> first | (cases h;done) | (cases g;done)
section
variable {K:PySem.W.Frag} {Z Θ:List Addr} {env:En} {C:Ce} {σ:St} {H:Hp} {x y:V}
theorem jK {kvs:List (PyData×PyData)} {ks:List Key} {js:List (List Key)} (h:cM c7 kvs=some ks) (g:cM nJ kvs=some js):kvs=[]:=by
 cases kvs with
 | nil=>rfl
 | cons p r=>
  unfold cM at h g;split at h
  ·rename_i h1 h2;split at g
   ·rename_i h3 h4;exact (Qt h1 h3).elim
   ·cases g
  ·cases h
theorem dX.get {kvs:List (PyData×PyData)} {d:PyData} {o:Option PyData} (h:dX Z Θ env σ H (.dict kvs) x) (hy:dX Z Θ env σ H d y) (e:nP kvs d=some o):
  ∃a r,x=.ref a∧Qp H a y r∧((∃v,r=some v∧∃d',o=some d'∧RZ (er (aR Z Θ env σ) H) d' v∧qx H a y (some v))∨(r=none∧o=none)):=by
 obtain ⟨a,vs,rfl,dt,rd⟩:=h.dct;unfold nP at e;split at e
 ·rename_i k hk;split at e
  ·rename_i hs;cases e;have yk:y=kV k:=by
    cases d <;> first | (cases hk;exact hy) | cases hk
   have dk:∃ks,cM c7 kvs=some ks∧H a=some (.dK (ks.zip vs)):=by
    rcases dt with h | ⟨ks,⟨ne,h2⟩,_⟩
    ·exact h
    ·obtain ⟨ks',h1⟩:=Option.isSome_iff_exists.mp hs;exact absurd (jK h1 h2) ne
   obtain ⟨ks,h1,ha⟩:=dk;have g:=qx.k (k:=k) ha;rw [←yk] at g;rcases xQ (k:=k) h1 rd with ⟨d',v,e1,e2,r⟩ | ⟨e1,e2⟩
   ·rw [e2] at g;exact ⟨a,some v,rfl,.inl g,.inl ⟨v,rfl,d',e1,r,g⟩⟩
   ·rw [e2] at g;exact ⟨a,none,rfl,.inl g,.inr ⟨rfl,e1⟩⟩
  ·cases e
 ·split at e
  ·rename_i ks hks;split at e
   ·rename_i hs;cases e;obtain ⟨b,hb,rfl⟩:∃b,H b=some (.tup (ks.map kV))∧y=.ref b:=by
     cases d <;> first | cases hks | skip
     obtain ⟨b,ws,rfl,hb,r⟩:=hy.tup;rw [jE hks r] at hb;exact ⟨b,hb,rfl⟩
    rcases dt with ⟨js,h1,ha⟩ | ⟨js,⟨ne,h1⟩,ha⟩
    ·obtain ⟨js',h2⟩:=Option.isSome_iff_exists.mp hs;have:=jK h1 h2;subst this;cases h1;exact ⟨a,none,rfl,.inr ⟨ha,⟨b,ks,rfl,hb⟩,rfl⟩,.inr ⟨rfl,rfl⟩⟩
    ·have g:=qx.t (k:=ks) ha hb;rcases xQ (k:=ks) h1 rd with ⟨d',v,e1,e2,r⟩ | ⟨e1,e2⟩
     ·rw [e2] at g;exact ⟨a,some v,rfl,.inl g,.inl ⟨v,rfl,d',e1,r,g⟩⟩
     ·rw [e2] at g;exact ⟨a,none,rfl,.inl g,.inr ⟨rfl,e1⟩⟩
   ·cases e
  ·cases e
end
def inD (d:PyData) (ds:List PyData):Bool:=ds.any fun e=>O6 (toV e) (toV d)
def inB (d:PyData):PyData→Option Bool
 | .list ds=>if fL d&&ds.all fL then some (inD d ds) else none
 | .tuple ds=>if fL d&&ds.all fL then some (inD d ds) else none
 | .dict kvs=>(nP kvs d).map (·.isSome)
 | _=>none
def j8 (d e:PyData):Option Vl:=(inB d e).map fun b=>.im (.bool b)
def fW (d e:PyData):Option Vl:=(inB d e).map fun b=>.im (.bool (!b))
def Z1 (K:PySem.W.Frag):R2:=fun x y H Q=>rIn K false x y H Q∨∃a o,y=.ref a∧Qp H a x o∧Q (.bl o.isSome) H
def Kl (K:PySem.W.Frag):R2:=fun x y H Q=>rIn K true x y H Q∨∃a o,y=.ref a∧Qp H a x o∧Q (.bl (!o.isSome)) H
theorem lD {X:Cx} (hu:X.A.units + 1 < cLine):g8 X (compareOp .In) (Z1 X.K):=Mp.or (Xw hu)
theorem mC {X:Cx} (hu:X.A.units + 1 < cLine):g8 X (compareOp .NotIn) (Kl X.K):=Be.or (M9 hu)
theorem uJ {d:PyData} (f:fL d=true):lX (toV d)=true:=by
 cases d <;> first | rfl | cases f
theorem V2 {d:PyData} {ds:List PyData}:inV (toV d) (ds.map toV)=inD d ds:=by
 unfold inV inD;rw [List.any_map];rfl
theorem Km {ds:List PyData} (f:ds.all fL=true):(ds.map toV).all lX=true:=by
 rw [List.all_map,List.all_eq_true];intro d hd;exact uJ (List.all_eq_true.mp f d hd)
theorem Fb {K:PySem.W.Frag} {Z Θ:List Addr} {env:En} {σ:St} {H:Hp} {x y:V} {dx dy:PyData} {b:Bool} (bx:dX Z Θ env σ H dx x) (j4:dX Z Θ env σ H dy y) (e:inB dx dy=some b):
  (∃p xs,y=.ref p∧(di K H p xs∨jD K H p xs)∧lX x=true∧xs.all lX=true∧inV x xs=b)∨∃a o,y=.ref a∧Qp H a x o∧o.isSome=b:=by
 unfold inB at e;split at e
 ·split at e
  ·rename_i ds hf;rw [Bool.and_eq_true] at hf;cases e;obtain ⟨a,vs,rfl,ha,r⟩:=j4.lst;rw [xJ hf.2 r] at ha;rw [bx.flat hf.1];exact .inl ⟨a,_,rfl,.inl (di.of ha),uJ hf.1,Km hf.2,V2⟩
  ·cases e
 ·split at e
  ·rename_i ds hf;rw [Bool.and_eq_true] at hf;cases e;obtain ⟨a,vs,rfl,ha,r⟩:=j4.tup;rw [xJ hf.2 r] at ha;rw [bx.flat hf.1];exact .inl ⟨a,_,rfl,.inr (jD.of ha),uJ hf.1,Km hf.2,V2⟩
  ·cases e
 ·rename_i kvs;cases hl:nP kvs dx with
  | none=>rw [hl] at e;cases e
  | some o=>
   rw [hl] at e;cases e;obtain ⟨a,r,rfl,g,q⟩:=j4.get bx hl;refine .inr ⟨a,r,rfl,g,?_⟩;rcases q with ⟨v,rfl,d',rfl,_⟩ | ⟨rfl,rfl⟩ <;> rfl
 ·cases e
theorem qG {K:PySem.W.Frag}:oU K (Z1 K) j8:=by
 intro Z Θ env C σ H x y dx dy res S bx j4 e Q q;unfold j8 at e;cases h:inB dx dy with
 | none=>rw [h] at e;cases e
 | some b=>
  rw [h] at e;cases e;have fin:=q (.bl b) H (bY.refl _ _) (bL S rfl rfl);rcases Fb (K:=K) bx j4 h with ⟨p,xs,e1,e2,e3,e4,e5⟩ | ⟨a,o,e1,e2,e3⟩
  ·rw [←e5] at fin;exact .inl ⟨p,xs,e1,e2,e3,e4,fin⟩
  ·rw [←e3] at fin;exact .inr ⟨a,o,e1,e2,fin⟩
theorem oW {K:PySem.W.Frag}:oU K (Kl K) fW:=by
 intro Z Θ env C σ H x y dx dy res S bx j4 e Q q;unfold fW at e;cases h:inB dx dy with
 | none=>rw [h] at e;cases e
 | some b=>
  rw [h] at e;cases e;have fin:=q (.bl (!b)) H (bY.refl _ _) (bL S rfl rfl);rcases Fb (K:=K) bx j4 h with ⟨p,xs,e1,e2,e3,e4,e5⟩ | ⟨a,o,e1,e2,e3⟩
  ·rw [←e5] at fin;exact .inl ⟨p,xs,e1,e2,e3,e4,fin⟩
  ·rw [←e3] at fin;exact .inr ⟨a,o,e1,e2,fin⟩
def Uo:PyData→PyData→Option PyData
 | .list ds,.int i=>n6 ds i
 | .tuple ds,.int i=>n6 ds i
 | .str z,.int i=>if z.length≤LIM then (n6 z.cps.toList i).map fun c=>.str ⟨#[c]⟩ else none
 | .dict kvs,d=>match nP kvs d with
  | some (some e)=>some e
  | _=>none
 | _,_=>none
def bH (d e:PyData):Option Vl:=(Uo d e).map .im
def Z2 (K:PySem.W.Frag):R2:=fun x y H Q=>rIx K x y H Q∨∃a v,x=.ref a∧qx H a y (some v)∧Q v H
theorem bh {X:Cx} (hu:X.A.units + 1 < cLine):N8 X (Z2 X.K):=W8.or (Um hu)
theorem Ko {E:Hp} {ds:List PyData} {vs:List V} {i:Int} {d:PyData} (r:gn E ds vs) (e:n6 ds i=some d):∃v,n6 vs i=some v∧RZ E d v:=by
 unfold n6 at e ⊢;rw [bW r];cases h:HN ds.length i with
 | none=>rw [h] at e;cases e
 | some j=>
  rw [h] at e;exact oR r e
theorem bU {K:PySem.W.Frag}:oU K (Z2 K) bH:=by
 intro Z Θ env C σ H x y dx dy res S bx j4 e Q q;unfold bH at e;cases h:Uo dx dy with
 | none=>rw [h] at e;cases e
 | some d=>
  rw [h] at e;cases e;unfold Uo at h;split at h
  ·obtain ⟨a,vs,rfl,ha,r⟩:=bx.lst;cases j4.int;obtain ⟨v,e1,r1⟩:=Ko r h;exact .inl (.inl ⟨a,vs,_,v,rfl,rfl,di.of ha,e1,q _ _ (bY.refl _ _) ⟨S,r1⟩⟩)
  ·obtain ⟨a,vs,rfl,ha,r⟩:=bx.tup;cases j4.int;obtain ⟨v,e1,r1⟩:=Ko r h;exact .inl (.inr (.inl ⟨a,vs,_,v,rfl,rfl,jD.of ha,e1,q _ _ (bY.refl _ _) ⟨S,r1⟩⟩))
  ·split at h
   ·rename_i z i hz;cases bx.str;cases j4.int;cases hc:n6 z.cps.toList i with
    | none=>rw [hc] at h;cases h
    | some c=>
     rw [hc] at h;cases h;exact .inl (.inr (.inr ⟨z,i,c,rfl,rfl,fM hz,hc,q _ _ (bY.refl _ _) (bL S rfl rfl)⟩))
   ·cases h
  ·split at h
   ·rename_i kvs e' hl;cases h;obtain ⟨a,r,rfl,g,hq⟩:=bx.get j4 hl;rcases hq with ⟨v,rfl,d',e1,r1,g1⟩ | ⟨_,e1⟩
    ·cases e1;exact .inr ⟨a,v,rfl,g1,q _ _ (bY.refl _ _) ⟨S,r1⟩⟩
    ·cases e1
   ·cases h
  ·cases h
def truD:PyData→Option Bool
 | .none=>some false
 | .bool b=>some b
 | .int i=>some (i != 0)
 | .str x=>if x.length≤LIM then some ((x.length:Int) != 0) else none
 | .list ds=>some (!ds.isEmpty)
 | .tuple ds=>some (!ds.isEmpty)
 | .dict kvs=>if (cM c7 kvs).isSome then some (!kvs.isEmpty) else none
def fTru (f:FB):FT:=fun env C=>match f env C with
 | some (d,_,C')=>match truD d with
  | some b=>some (b,C')
  | none=>none
 | none=>none
def fTst (f:FE):FT:=fun env C=>match f env C with
 | some (.im (.bool b),_,C')=>some (b,C')
 | _=>none
def vp (f:FT):FT:=fun env C=>match f env C with
 | some (b,C')=>some (!b,C')
 | none=>none
def ie (f g:FT):FT:=fun env C=>match f env C with
 | some (true,C')=>g env C'
 | some (false,C')=>some (false,C')
 | none=>none
def zy (f g:FT):FT:=fun env C=>match f env C with
 | some (true,C')=>some (true,C')
 | some (false,C')=>g env C'
 | none=>none
theorem Xx {K:PySem.W.Frag} {Z Θ:List Addr} {env:En} {σ:St} {H:Hp} {x:V} {d:PyData} {b:Bool} (h:dX Z Θ env σ H d x) (e:truD d=some b):WW K x H b:=by
 cases d with
 | none=>cases e;cases (show x=_ from h);rfl
 | bool c=>cases e;cases (show x=_ from h);rfl
 | int i=>cases e;cases (show x=_ from h);rfl
 | str z=>
  simp only [truD] at e;split at e
  ·rename_i hz;cases e;cases (show x=_ from h);exact ⟨fM hz,rfl⟩
  ·cases e
 | list ds=>
  cases e;obtain ⟨a,vs,rfl,ha,r⟩:=h.lst;refine .inl ⟨vs,di.of ha,?_⟩;have:=bW r;cases ds <;> cases vs <;> first | rfl | cases this
 | tuple ds=>
  cases e;obtain ⟨a,vs,rfl,ha,r⟩:=h.tup;refine .inr (.inl ⟨vs,jD.of ha,?_⟩);have:=bW r;cases ds <;> cases vs <;> first | rfl | cases this
 | dict kvs=>
  simp only [truD] at e;split at e
  ·rename_i hs;cases e;obtain ⟨a,vs,rfl,da,r⟩:=h.dct;rcases da with ⟨ks,h1,ha⟩ | ⟨ks,⟨ne,h2⟩,ha⟩
   ·refine .inr (.inr ⟨_,ha,?_⟩);have l1:=jb h1;have l2:=sV r;cases kvs <;> cases ks <;> cases vs <;> first | rfl | cases l1 | cases l2
   ·obtain ⟨ks',h1⟩:=Option.isSome_iff_exists.mp hs;exact absurd (jK h1 h2) ne
  ·cases e
section
variable {X:Cx} {a b:Expr} {pos:Pos}
theorem jh {f:FB} (h:PE X a (mL X.K f)) (he:∀whole,isTrue a X.env whole=(do let v ←whole;standAt a.pos;holding [v] (truthy v)):=by intro _;rfl):PT X a (nM X.K (fTru f)):=
 (OD h he).weak fun σ H Q aZ=>by
  obtain ⟨Z,Θ,env,C,b,C',S,hf,q⟩:=aZ;unfold fTru at hf;split at hf
  ·rename_i d e1 C1 h1;split at hf
   ·rename_i b' hb;cases hf;exact ⟨Z,Θ,env,C,d,e1,C',S,h1,fun v H' k f S' bo=>⟨b,Xx bo hb,q H' k (S.go k S'.cell)⟩⟩
   ·cases hf
  ·cases hf
theorem Fd {K:PySem.W.Frag} {t:TE} {f:FE} (w:∀σ H Q,tE K f σ H Q→t σ H Q):∀σ H Q,nM K (fTst f) σ H Q→Ow t σ H Q:=by
 rintro σ H Q ⟨Z,Θ,env,C,b,C',S,hf,q⟩;unfold fTst at hf;split at hf
 ·rename_i b' e1 C1 h1;cases hf;refine w _ _ _ ⟨Z,Θ,env,C,.im (.bool b),e1,C',S,h1,fun v H' k f R=>?_⟩;obtain ⟨S',r⟩:=R;exact ⟨b,r,q H' k (S.go k S'.cell)⟩
 ·cases hf
theorem cA {o:CmpOp} {r:R2} {op:PyData→PyData→Option Vl} {fa fb:FB} (ho:g8 X (compareOp o) r) (L:oU X.K r op) (ha:PE X a (mL X.K fa)) (hb:PE X b (mL X.K fb)) (hm:behindInMarks o b=false):
  PT X (.Compare a [o] [b] pos) (nM X.K (fTst (aH op fa fb))):=(Tg ho ha hb hm).weak (Fd (sX L))
theorem BK {f:FT} (h:PT X a (nM X.K f)):PT X (.UnaryOp .Not a pos) (nM X.K (vp f)):=(Wq h).weak fun σ H Q aZ=>by
 obtain ⟨Z,Θ,env,C,b,C',S,hf,q⟩:=aZ;unfold vp at hf;split at hf
 ·rename_i b' C1 h1;cases hf;exact ⟨Z,Θ,env,C,b',C',S,h1,q⟩
 ·cases hf
theorem Qu {K:PySem.W.Frag} {f g:FT}:∀σ H Q,nM K (ie f g) σ H Q→YL (nM K f) (nM K g) σ H Q:=by
 rintro σ H Q ⟨Z,Θ,env,C,b,C',S,hf,q⟩;unfold ie at hf;split at hf
 ·rename_i C1 h1;exact ⟨Z,Θ,env,C,true,C1,S,h1,fun H1 k1 S1=>Eg ⟨Z,Θ,env,C1,b,C',S1,hf,fun H2 k2 S2=>q H2 (k1.trans k2) S2⟩⟩
 ·rename_i C1 h1;cases hf;exact ⟨Z,Θ,env,C,false,C',S,h1,fun H1 k1 S1=>Ef (q H1 k1 S1)⟩
 ·cases hf
theorem Uq {K:PySem.W.Frag} {f g:FT}:∀σ H Q,nM K (zy f g) σ H Q→tOr (nM K f) (nM K g) σ H Q:=by
 rintro σ H Q ⟨Z,Θ,env,C,b,C',S,hf,q⟩;unfold zy at hf;split at hf
 ·rename_i C1 h1;cases hf;exact ⟨Z,Θ,env,C,true,C',S,h1,fun H1 k1 S1=>Eg (q H1 k1 S1)⟩
 ·rename_i C1 h1;exact ⟨Z,Θ,env,C,false,C1,S,h1,fun H1 k1 S1=>Ef ⟨Z,Θ,env,C1,b,C',S1,hf,fun H2 k2 S2=>q H2 (k1.trans k2) S2⟩⟩
 ·cases hf
variable {rest:List Expr}
theorem qb {f:FT} (h:PT X a (nM X.K f)):PW X (.BoolOp .And [a] pos) (nM X.K f):=pw_and1 h
theorem BL {f:FT} (h:PT X a (nM X.K f)):PW X (.BoolOp .Or [a] pos) (nM X.K f):=pw_or1 h
theorem jL {f g:FT} (h:PT X a (nM X.K f)) (hb:PW X (.BoolOp .And (b::rest) pos) (nM X.K g)):PW X (.BoolOp .And (a::b::rest) pos) (nM X.K (ie f g)):=(pw_and h hb).weak Qu
theorem Fe {f g:FT} (h:PT X a (nM X.K f)) (hb:PW X (.BoolOp .Or (b::rest) pos) (nM X.K g)):PW X (.BoolOp .Or (a::b::rest) pos) (nM X.K (zy f g)):=(pw_or h hb).weak Uq
end
def Ff (op op':PyData→PyData→Option Vl) (fa fb fc:FB):FE:=fun env C=>match fa env C with
 | some (x,e1,C1)=>match fb e1 C1 with
  | some (y,e2,C2)=>match op x y with
   | some (.im (.bool true))=>match fc e2 C2 with
    | some (z,e3,C3)=>match op' y z with
     | some (.im (.bool b))=>some (.im (.bool b),env,C3)
     | _=>none
    | none=>none
   | some (.im (.bool false))=>some (.im (.bool false),env,C2)
   | _=>none
  | none=>none
 | none=>none
theorem Fg {K:PySem.W.Frag} {r r':R2} {op op':PyData→PyData→Option Vl} (L:oU K r op) (L':oU K r' op') {fa fb fc:FB}:∀σ H Q,tE K (Ff op op' fa fb fc) σ H Q→Hu r r' (mL K fa) (mL K fb) (mL K fc) σ H Q:=by
 rintro σ H Q ⟨Z,Θ,env,C,res,env',C',S,hf,q⟩;unfold Ff at hf;split at hf
 ·rename_i x e1 C1 h1;split at hf
  ·rename_i y e2 C2 h2;refine ⟨Z,Θ,env,C,x,e1,C1,S,h1,fun v H1 k1 f1 S1 b1=>⟨Z,Θ,e1,C1,y,e2,C2,S1,h2,fun u H2 k2 f2 S2 b2=>?_⟩⟩;split at hf
   ·rename_i h3;split at hf
    ·rename_i z e3 C3 h4;split at hf
     ·rename_i b h5;cases hf;refine L Z Θ e2 C2 σ H2 v u x y _ S2 (b1.go S1 k2 f2) b2 h3 _ fun w H3 k3 R=>⟨true,R.2,Eg ⟨Z,Θ,e2,C2,z,e3,C',R.1,h4,fun w2 H4 k4 f4 S4 b4=>?_⟩⟩
      refine L' Z Θ e3 C' σ H4 u w2 y z _ S4 ((b2.go S2 k3 (Fz.refl _)).go R.1 k4 f4) b4 h5 Q fun w3 H5 k5 R5=>?_
      have k:=(((k1.trans k2).trans k3).trans k4).trans k5;exact q w3 H5 k (Fz.refl _) ⟨S.go k R5.1.cell,R5.2⟩
     ·cases hf
    ·cases hf
   ·rename_i h3;cases hf;refine L Z Θ e2 C' σ H2 v u x y _ S2 (b1.go S1 k2 f2) b2 h3 _ fun w H3 k3 R=>⟨false,R.2,Ef ?_⟩
    have k:=(k1.trans k2).trans k3;exact q _ H3 k (Fz.refl _) ⟨S.go k R.1.cell,rfl⟩
   ·cases hf
  ·cases hf
 ·cases hf
section
variable {X:Cx} {a b c:Expr} {pos:Pos} {r r':R2} {o o':CmpOp} {op op':PyData→PyData→Option Vl} {fa fb fc:FB}
theorem Xy (ho:g8 X (compareOp o) r) (L:oU X.K r op) (ho':g8 X (compareOp o') r') (L':oU X.K r' op') (ha:PE X a (mL X.K fa)) (hb:PE X b (mL X.K fb)) (hc:PE X c (mL X.K fc))
  (hm:lastMarks [o,o'] [b,c]=false:=by with_unfolding_all rfl):PE X (.Compare a [o,o'] [b,c] pos) (tE X.K (Ff op op' fa fb fc)):=(Ox ho ho' ha hb hc hm).weak (Fg L L')
theorem Xz (ho:g8 X (compareOp o) r) (L:oU X.K r op) (ho':g8 X (compareOp o') r') (L':oU X.K r' op') (ha:PE X a (mL X.K fa)) (hb:PE X b (mL X.K fb)) (hc:PE X c (mL X.K fc))
  (hm:lastMarks [o,o'] [b,c]=false:=by with_unfolding_all rfl):PT X (.Compare a [o,o'] [b,c] pos) (nM X.K (fTst (Ff op op' fa fb fc))):=(Oz ho ho' ha hb hc hm).weak (Fd (Fg L L'))
end
def oX (f g:FE):FE:=fun env C=>match f env C with
 | some (.im (.bool true),_,C')=>g env C'
 | some (.im (.bool false),_,C')=>some (.im (.bool false),env,C')
 | _=>none
def Kq (f:FE):FE:=fun env C=>match f env C with
 | some (.im (.bool b),_,C')=>some (.im (.bool (!b)),env,C')
 | _=>none
def BP (c:FT) (f g:FE):FE:=fun env C=>match c env C with
 | some (true,C')=>f env C'
 | some (false,C')=>g env C'
 | none=>none
def fNeg (f:FB):FE:=fun env C=>match f env C with
 | some (.int i,_,C')=>some (.im (.int (-i)),env,C')
 | _=>none
section
variable {X:Cx} {a b c:Expr} {pos:Pos} {rest:List Expr}
theorem xR {o} {f:FE} (h:PE X a (tE X.K f)):PE X (.BoolOp o [a] pos) (tE X.K f):=Wr h
theorem uK {f g:FE} (ha:PE X a (tE X.K f)) (hb:PE X (.BoolOp .And (b::rest) pos) (tE X.K g)):PE X (.BoolOp .And (a::b::rest) pos) (tE X.K (oX f g)):=(Ws ha hb).weak fun σ H Q aZ=>by
 obtain ⟨Z,Θ,env,C,r,env',C',S,hf,q⟩:=aZ;unfold oX at hf;split at hf
 ·rename_i e1 C1 h1;refine ⟨Z,Θ,env,C,_,e1,C1,S,h1,fun v H1 k1 f1 R1=>⟨true,R1.2,Eg ⟨Z,Θ,env,C1,r,env',C',S.go k1 R1.1.cell,hf,fun w H2 k2 f2 R2=>q w H2 (k1.trans k2) f2 (R2.from k1)⟩⟩⟩
 ·rename_i e1 C1 h1;cases hf;exact ⟨Z,Θ,env,C,_,e1,C',S,h1,fun v H1 k1 f1 R1=>⟨false,R1.2,Ef (q _ H1 k1 (Fz.refl _) ⟨S.go k1 R1.1.cell,rfl⟩)⟩⟩
 ·cases hf
theorem XC {f:FE} (ha:PE X a (tE X.K f)):PE X (.UnaryOp .Not a pos) (tE X.K (Kq f)):=(Wt ha).weak fun σ H Q aZ=>by
 obtain ⟨Z,Θ,env,C,r,env',C',S,hf,q⟩:=aZ;unfold Kq at hf;split at hf
 ·rename_i b e1 C1 h1;cases hf;exact ⟨Z,Θ,env,C,_,e1,C',S,h1,fun v H1 k1 f1 R1=>⟨b,R1.2,q _ H1 k1 (Fz.refl _) ⟨S.go k1 R1.1.cell,rfl⟩⟩⟩
 ·cases hf
theorem Qv {t:FT} {f g:FE} (hc:PT X c (nM X.K t)) (ha:PE X a (tE X.K f)) (hb:PE X b (tE X.K g)):PE X (.IfExp c a b pos) (tE X.K (BP t f g)):=(Og hc ha hb).weak fun σ H Q aZ=>by
 obtain ⟨Z,Θ,env,C,r,env',C',S,hf,q⟩:=aZ;unfold BP at hf;split at hf
 ·rename_i C1 h1;exact ⟨Z,Θ,env,C,true,C1,S,h1,fun H1 k1 S1=>Eg ⟨Z,Θ,env,C1,r,env',C',S1,hf,fun w H2 k2 f2 R2=>q w H2 (k1.trans k2) f2 (R2.from k1)⟩⟩
 ·rename_i C1 h1;exact ⟨Z,Θ,env,C,false,C1,S,h1,fun H1 k1 S1=>Ef ⟨Z,Θ,env,C1,r,env',C',S1,hf,fun w H2 k2 f2 R2=>q w H2 (k1.trans k2) f2 (R2.from k1)⟩⟩
 ·cases hf
theorem XD {f:FB} (ha:PE X a (mL X.K f)):PE X (.UnaryOp .USub a pos) (tE X.K (fNeg f)):=(Za WQ ha).weak fun σ H Q aZ=>by
 obtain ⟨Z,Θ,env,C,r,env',C',S,hf,q⟩:=aZ;unfold fNeg at hf;split at hf
 ·rename_i i e1 C1 h1;cases hf;exact ⟨Z,Θ,env,C,_,e1,C',S,h1,fun v H1 k1 f1 S1 b1=>⟨i,b1,q _ H1 k1 (Fz.refl _) ⟨S.go k1 S1.cell,rfl⟩⟩⟩
 ·cases hf
end
def sZ (K:PySem.W.Frag) (E:Hp) (Θ:List Addr):Vl→V→Prop
 | .im d,v=>RZ E d v
 | .ow _,_=>False
 | .ce n,v=>∃a,v=.ref a∧Θ[n]?=some a
 | .sc ns,v=>∃a,v=.ref a∧di K E a (ns.map V.int)
inductive ji (K:PySem.W.Frag) (E:Hp) (Θ:List Addr):List Vl→List V→Prop
 | nil:ji K E Θ [] []
 | cons {x:Vl} {v:V} {xs:List Vl} {vs:List V}:sZ K E Θ x v→ji K E Θ xs vs→ji K E Θ (x::xs) (v::vs)
theorem sZ.same {K:PySem.W.Frag} {E E':Hp} {Θ:List Addr} (s:bu E E') {x:Vl} {v:V} (h:sZ K E Θ x v):sZ K E' Θ x v:=by
 cases x with
 | im d=>exact RZ.same s h
 | ow d=>exact h
 | ce n=>exact h
 | sc ns=>obtain ⟨a,e,q⟩:=h;exact ⟨a,e,s.seq q⟩
theorem ji.same {K:PySem.W.Frag} {E E':Hp} {Θ:List Addr} (s:bu E E') {xs:List Vl} {vs:List V} (h:ji K E Θ xs vs):ji K E' Θ xs vs:=by
 induction h with
 | nil=>exact .nil
 | cons a _ ih=>exact .cons (a.same s) ih
inductive V3 (K:PySem.W.Frag) (f:FA) (σ:St) (H:Hp) (Q:List V→Hp→Prop):Prop
 | mk (Z Θ:List Addr) (env:En) (C:Ce) (xs:List Vl) (env':En) (C':Ce) (S:Sm K Z Θ env C σ H) (hf:f env C=some (xs,env',C')) (q:∀vs H',bY Θ H H'→Fz env env'→Sm K Z Θ env' C' σ H'→ji K (er (aR Z Θ env' σ) H') Θ xs vs→Q vs H'):V3 K f σ H Q
def aNil:FA:=fun env C=>some ([],env,C)
def aCons (f:FE) (g:FA):FA:=fun env C=>match f env C with
 | some (r,e1,C1)=>match g e1 C1 with
  | some (xs,e2,C2)=>some (still r::xs,e2,C2)
  | none=>none
 | none=>none
def bNil:Sy:=fun env C=>some ([],env,C)
def bCons (f:FB) (g:Sy):Sy:=fun env C=>match f env C with
 | some (d,e1,C1)=>match g e1 C1 with
  | some (ds,e2,C2)=>some (d::ds,e2,C2)
  | none=>none
 | none=>none
theorem Res.arg {K:PySem.W.Frag} {Z Θ:List Addr} {env:En} {C:Ce} {σ:St} {H H':Hp} {r:Vl} {v:V} (h:Res K Z Θ env C σ H H' r v):Sm K Z Θ env C σ H'∧sZ K (er (aR Z Θ env σ) H') Θ (L2.still r) v:=by
 have g:=h.still;cases r with
 | im d=>exact g
 | ow d=>exact g
 | ce n=>exact g
 | sc ns=>exact g
theorem Iv.same {E E' T T':Hp} (s:bu E E') (t:bu T T') {ds:List PyData} {vs:List V} (h:Iv E T ds vs):Iv E' T' ds vs:=by
 induction h with
 | nil=>exact .nil
 | cons a _ ih=>exact .cons (a.same s t) ih
section
variable {X:Cx} {e:Expr} {es:List Expr} {pos:Pos}
theorem aD:PA X [] (V3 X.K aNil):=jH.weak fun σ H Q aZ=>by
 obtain ⟨Z,Θ,env,C,xs,env',C',S,hf,q⟩:=aZ;cases hf;exact q [] H (bY.refl _ _) (Fz.refl _) S .nil
theorem aa {f:FE} {g:FA} (h:PE X e (tE X.K f)) (hr:PA X es (V3 X.K g)) (hs:starEach (e::es) X.env=(false,eval e X.env)::starEach es X.env:=by rfl):PA X (e::es) (V3 X.K (aCons f g)):=(dZ h hr hs).weak fun σ H Q aZ=>by
 obtain ⟨Z,Θ,env,C,xs,env',C',S,hf,q⟩:=aZ;unfold aCons at hf;split at hf
 ·rename_i r e1 C1 h1;split at hf
  ·rename_i ys e2 C2 h2;cases hf;refine ⟨Z,Θ,env,C,r,e1,C1,S,h1,fun v H1 k1 f1 R1=>?_⟩;obtain ⟨S1,a1⟩:=R1.arg;exact ⟨Z,Θ,e1,C1,ys,env',C',S1,h2,fun vs H2 k2 f2 S2 a2=>q _ H2 (k1.trans k2) (f1.trans f2) S2 (.cons (a1.same (Ql S1 k2 f2)) a2)⟩
  ·cases hf
 ·cases hf
theorem bw:PA X [] (Ui X.K bNil):=jH.weak fun σ H Q aZ=>by
 obtain ⟨Z,Θ,env,C,xs,env',C',S,hf,q⟩:=aZ;cases hf;exact q [] H (bY.refl _ _) (Fz.refl _) S .nil
theorem aQ {f:FB} {g:Sy} (h:PE X e (mL X.K f)) (hr:PA X es (Ui X.K g)) (hs:starEach (e::es) X.env=(false,eval e X.env)::starEach es X.env:=by rfl):PA X (e::es) (Ui X.K (bCons f g)):=(dZ h hr hs).weak fun σ H Q aZ=>by
 obtain ⟨Z,Θ,env,C,xs,env',C',S,hf,q⟩:=aZ;unfold bCons at hf;split at hf
 ·rename_i d e1 C1 h1;split at hf
  ·rename_i ys e2 C2 h2;cases hf;exact ⟨Z,Θ,env,C,d,e1,C1,S,h1,fun v H1 k1 f1 S1 b1=>⟨Z,Θ,e1,C1,ys,env',C',S1,h2,fun vs H2 k2 f2 S2 b2=>q _ H2 (k1.trans k2) (f1.trans f2) S2 (.cons (b1.go S1 k2 f2) b2)⟩⟩
  ·cases hf
 ·cases hf
end
def allIm:List Vl→Option (List PyData)
 | []=>some []
 | .im d::r=>match allIm r with
  | some ds=>some (d::ds)
  | none=>none
 | _=>none
theorem xT {K:PySem.W.Frag} {E:Hp} {Θ:List Addr}:∀{xs:List Vl} {ds:List PyData} {vs:List V},allIm xs=some ds→ji K E Θ xs vs→gn E ds vs
 | [],ds,vs,h,a=>by cases h;cases a;rfl
 | .im d::r,ds,vs,h,a=>by
  unfold allIm at h;split at h
  ·rename_i t ht;cases h;cases a with
   | cons a1 a2=>exact ⟨_,_,rfl,a1,xT ht a2⟩
  ·cases h
 | .ow _::r,ds,vs,h,a=>by cases h
 | .ce _::r,ds,vs,h,a=>by cases h
 | .sc _::r,ds,vs,h,a=>by cases h
def fLst (g:FA):FE:=fun env C=>match g env C with
 | some (xs,e',C')=>match allIm xs with
  | some ds=>if ds.length≤LIM then some (.ow (.list ds),e',C') else none
  | none=>none
 | none=>none
def fTup (g:FA):FE:=fun env C=>match g env C with
 | some (xs,e',C')=>match allIm xs with
  | some ds=>if ds.length≤LIM then some (.im (.tuple ds),e',C') else none
  | none=>none
 | none=>none
section
variable {X:Cx} {e:Expr} {es:List Expr} {pos:Pos}
theorem dm {g:FA} (h:PA X es (V3 X.K g)):PE X (.List es pos) (tE X.K (fLst g)):=(W0 h).weak fun σ H Q aZ=>by
 obtain ⟨Z,Θ,env,C,r,env',C',S,hf,q⟩:=aZ;unfold fLst at hf;split at hf
 ·rename_i xs e1 C1 h1;split at hf
  ·rename_i ds hd;split at hf
   ·rename_i hl;cases hf;refine ⟨Z,Θ,env,C,xs,env',C',S,h1,fun vs H1 k1 f1 S1 a1=>?_⟩;have r:=xT hd a1;exact ⟨by rw [bW r];exact fM hl,fun p hp=>q _ _ (k1.trans (bY.upd hp)) f1 ((fV S1 r hp).from k1)⟩
   ·cases hf
  ·cases hf
 ·cases hf
theorem f9 {x1} {g:FA} (h:PA X es (V3 X.K g)):PE X (.Tuple es x1 pos) (tE X.K (fTup g)):=(HB h).weak fun σ H Q aZ=>by
 obtain ⟨Z,Θ,env,C,r,env',C',S,hf,q⟩:=aZ;unfold fTup at hf;split at hf
 ·rename_i xs e1 C1 h1;split at hf
  ·rename_i ds hd;split at hf
   ·rename_i hl;cases hf;refine ⟨Z,Θ,env,C,xs,env',C',S,h1,fun vs H1 k1 f1 S1 a1=>?_⟩;have r:=xT hd a1;exact ⟨by rw [bW r];exact fM hl,fun p hp=>q _ _ (k1.trans (bY.upd hp)) f1 ((vV S1 r hp).from k1)⟩
   ·cases hf
  ·cases hf
 ·cases hf
def IK:FE:=fun env C=>some (.ow (.dict []),env,C)
theorem Qw:PE X (.Dict [] [] pos) (tE X.K IK):=Pa.weak fun σ H Q aZ=>by
 obtain ⟨Z,Θ,env,C,r,env',C',S,hf,q⟩:=aZ;cases hf;exact fun p hp=>q _ _ (bY.upd hp) (Fz.refl _) (Ug (vs:=[]) S (fun _ z=>nomatch z) (.inl ⟨[],rfl,aP⟩) rfl hp)
end
def BR (K:PySem.W.Frag) (r:List V→Hp→VK→Prop) (op:List PyData→Option Vl):Prop:=
 ∀(Z Θ:List Addr) (env:En) (C:Ce) (σ:St) (H:Hp) (xs:List V) (ds:List PyData) (res:Vl),Sm K Z Θ env C σ H→Kg Z Θ env σ H ds xs→op ds=some res→
  ∀Q:VK,(∀v H',bY Θ H H'→Res K Z Θ env C σ H H' res v→Q v H')→r xs H Q
def fFun (op:List PyData→Option Vl) (g:Sy):FE:=fun env C=>match g env C with
 | some (ds,e',C')=>match op ds with
  | some r=>some (r,rst r env e',C')
  | none=>none
 | none=>none
theorem Fi {K:PySem.W.Frag} {r:List V→Hp→VK→Prop} {op:List PyData→Option Vl} (L:BR K r op) {g:Sy}:∀σ H Q,tE K (fFun op g) σ H Q→tCB r (Ui K g) σ H Q:=by
 rintro σ H Q ⟨Z,Θ,env,C,res,env',C',S,hf,q⟩;unfold fFun at hf;split at hf
 ·rename_i ds e1 C1 h1;split at hf
  ·rename_i r0 h2;cases hf;refine ⟨Z,Θ,env,C,ds,e1,C',S,h1,fun vs H1 k1 f1 S1 b1=>L Z Θ e1 C' σ H1 vs ds res S1 b1 h2 Q fun z H2 k2 R=>?_⟩;exact q z H2 (k1.trans k2) (f1.rst res) ((R.from k1).rst S (k1.trans k2))
  ·cases hf
 ·cases hf
section
variable {X:Cx} {x:Str} {p pos:Pos} {e:Expr} {es:List Expr} {g:Sy} {id T:String} {r:List V→Hp→VK→Prop} {op:List PyData→Option Vl}
theorem bI (hc:cY X (.builtin id) r) (L:BR X.K r op) (hg:Gl X x) (hm:X.mg x=none) (hv:bootBuiltins x=some (.builtin id)) (ha:PA X (e::es) (Ui X.K g)) (hn:x≠"__name__":=by decide) (hdb:(x==("__debug__":Str))=false:=by decide)
  (he:starEach (e::es) X.env=(false,eval e X.env)::starEach es X.env:=by rfl) (hpl:(backTo pos (starEach es X.env)).any (·.1)=false:=by rfl):PE X (.Call (.Name x p) (e::es) [] pos) (tE X.K (fFun op g)):=(rW hc hg hm hv ha hn hdb he hpl).weak (Fi L)
theorem mD (hc:cY X (.type T) r) (L:BR X.K r op) (hg:Gl X x) (hm:X.mg x=none) (hv:bootBuiltins x=some (.type T)) (ha:PA X (e::es) (Ui X.K g)) (hn:x≠"__name__":=by decide) (hdb:(x==("__debug__":Str))=false:=by decide)
  (he:starEach (e::es) X.env=(false,eval e X.env)::starEach es X.env:=by rfl) (hpl:(backTo pos (starEach es X.env)).any (·.1)=false:=by rfl):PE X (.Call (.Name x p) (e::es) [] pos) (tE X.K (fFun op g)):=(Mm hc hg hm hv ha hn hdb he hpl).weak (Fi L)
end
abbrev FN:=List Vl→Ce→Option (Vl×Ce)
def spT (K:PySem.W.Frag) (f:FN):Sp:=fun vs H Q _=>∃Z Θ C xs r C',Sm K Z Θ [] C [] H∧ji K (er (aR Z Θ [] []) H) Θ xs vs∧f xs C=some (r,C')∧
 ∀v H',bY Θ H H'→Res K Z Θ [] C' [] H H' r v→Q v H'
def fCal (f:FN) (g:FA):FE:=fun env C=>match g env C with
 | some (xs,e',C1)=>match f xs C1 with
  | some (r,C2)=>some (r,rst r env e',C2)
  | none=>none
 | none=>none
theorem jM {P P':List Addr} {H:Hp} (h:∀a,a∈P ↔ a∈P'):er P H=er P' H:=by
 funext b;unfold er;by_cases hb:b∈P
 ·rw [if_pos hb,if_pos ((h b).mp hb)]
 ·rw [if_neg hb,if_neg (fun z=>hb ((h b).mpr z))]
theorem BV {Z Θ:List Addr} {env:En} {σ:St} (a:Addr):a∈aR (Z++bD env σ) Θ [] [] ↔ a∈aR Z Θ env σ:=by
 simp only [aR,bD,List.mem_append,List.append_nil];constructor
 ·rintro ((h | h) | h)
  ·exact .inl h
  ·exact .inr (.inr h)
  ·exact .inr (.inl h)
 ·rintro (h | h | h)
  ·exact .inl (.inl h)
  ·exact .inr h
  ·exact .inl (.inr h)
section
variable {K:PySem.W.Frag} {Z Θ:List Addr} {env:En} {C C':Ce} {σ:St} {H H':Hp} {a:Addr}
theorem Sm.xU (S:Sm K Z Θ env C σ H) (ha:H a=none) (k:bY Θ H H') (h':NT (H' a)) (c:gB Θ C' H'):Sm K (a::Z) Θ env C' σ H':=by
 have sm:bu (er (aR Z Θ env σ) H) (er (aR (a::Z) Θ env σ) H'):=gA k S.Oa fun b m=>by
  rcases List.mem_cons.mp m with rfl | m
  ·exact .inr ha
  ·exact .inl m
 refine ⟨S.len,List.nodup_cons.mpr ⟨fun m=>S.Iu a m ha,S.nd⟩,fun b m=>?_,fun i x e=>?_,c⟩
 ·rcases List.mem_cons.mp m with rfl | m
  ·exact h'
  ·obtain ⟨u,e,n⟩:=S.dom b m;exact ⟨u,k.keep _ _ e fun z=>by
    have h:=S.nd;rw [List.nodup_append] at h;exact h.2.2 b m b (List.mem_append_left _ z) rfl,n⟩
 ·obtain ⟨v,e1,r⟩:=S.slot i x e;refine ⟨v,e1,r.same sm fun d b ex ev o' ho=>k.keep _ _ ho ?_⟩;subst ex ev;exact (S.fZ (cO.mpr ⟨i,d,e,e1⟩)).2
theorem Sm.bare (S:Sm K Z Θ env C σ H):Sm K (Z++bD env σ) Θ [] C [] H:=by
 refine ⟨rfl,?_,fun b m=>?_,fun i x e=>by simp at e,S.cell⟩
 ·have h:=S.nd;show ((Z++bD env σ)++(Θ++[])).Nodup;rw [List.append_nil,List.append_assoc];have p:(Z++(Θ++bD env σ)).Perm (Z++(bD env σ++Θ)):=List.Perm.append_left Z List.perm_append_comm;exact p.nodup h
 ·rcases List.mem_append.mp m with m | m
  ·exact S.dom b m
  ·exact S.pnt b (List.mem_append_right _ (List.mem_append_right _ m))
theorem Res.back {r:Vl} {v:V} (S:Sm K Z Θ env C σ H) (k:bY Θ H H') (h:Res K (Z++bD env σ) Θ [] C' [] H H' r v):Res K Z Θ env C' σ H H' r v:=by
 have e1:er (aR (Z++bD env σ) Θ [] []) H'=er (aR Z Θ env σ) H':=jM BV;cases r with
 | im d=>
  obtain ⟨S',r⟩:=h;rw [e1] at r;exact ⟨S.go k S'.cell,r⟩
 | ow d=>
  obtain ⟨a,rfl,hn,S',r⟩:=h;have e2:er (aR (a::(Z++bD env σ)) Θ [] []) H'=er (aR (a::Z) Θ env σ) H':=jM fun b=>by
   show b∈a::aR (Z++bD env σ) Θ [] [] ↔ b∈a::aR Z Θ env σ;rw [List.mem_cons,List.mem_cons,BV]
  rw [e2] at r;exact ⟨a,rfl,hn,S.xU hn k (S'.dom a List.mem_cons_self) S'.cell,r⟩
 | ce n=>exact ⟨S.go k h.1.cell,h.2⟩
 | sc ns=>
  obtain ⟨S',a,rfl,q⟩:=h;rw [e1] at q;exact ⟨S.go k S'.cell,a,rfl,q⟩
end
section
variable {X:Cx} {x:Str} {k:Nat} {ps:List Str} {p pos:Pos} {e:Expr} {es:List Expr} {f:FN} {g:FA}
theorem Qx {K:PySem.W.Frag}:∀σ H Q,tE K (fCal f g) σ H Q→O1 (spT K f) [] E0 (V3 K g) σ H Q:=by
 rintro σ H Q ⟨Z,Θ,env,C,res,env',C',S,hf,q⟩;unfold fCal at hf;split at hf
 ·rename_i xs e1 C1 h1;split at hf
  ·rename_i r C2 h2;cases hf;refine ⟨Z,Θ,env,C,xs,e1,C1,S,h1,fun vs H1 k1 f1 S1 a1=>?_⟩;show spT K f (vs++[]) H1 Q E0;rw [List.append_nil];have e2:er (aR (Z++bD e1 σ) Θ [] []) H1=er (aR Z Θ e1 σ) H1:=jM BV;rw [←e2] at a1;exact ⟨Z++bD e1 σ,Θ,C1,xs,res,C',S1.bare,a1,h2,fun v H2 k2 R=>q v H2 (k1.trans k2) (f1.rst res) (((R.back S1 k2).from k1).rst S (k1.trans k2))⟩
  ·cases hf
 ·cases hf
theorem aU (F:j7 X.prog X.w X.K X.mg X.base x k ps (spT X.K f)) (hr:iz k X.A) (hg:Gl X x) (ha:PA X (e::es) (V3 X.K g)) (hdb:(x==("__debug__":Str))=false:=by decide)
  (he:starEach (e::es) X.env=(false,eval e X.env)::starEach es X.env:=by rfl) (hpl:(backTo pos (starEach es X.env)).any (·.1)=false:=by rfl):PE X (.Call (.Name x p) (e::es) [] pos) (tE X.K (fCal f g)):=(ZD F hr hg ha hdb he hpl).weak Qx
end
theorem uL:∀{env:En} {σ:St},(∀(i j:Nat) (d e:PyData) (a:Addr),env[i]?=some (some (Vl.ow d))→σ[i]?=some (some (V.ref a))→env[j]?=some (some (Vl.ow e))→σ[j]?=some (some (V.ref a))→i=j)→(bD env σ).Nodup
 | [],σ,_=>by cases σ <;> exact List.nodup_nil
 | _::_,[],_=>List.nodup_nil
 | x::en,v::s,h=>by
  rw [bD,List.nodup_append];refine ⟨?_,uL fun i j d e a h1 h2 h3 h4=>?_,fun a ha b hb e=>?_⟩
  ·unfold own1;split
   ·exact List.nodup_cons.mpr ⟨by simp,List.nodup_nil⟩
   ·exact List.nodup_nil
  ·have:=h (i + 1) (j + 1) d e a (by simpa using h1) (by simpa using h2) (by simpa using h3) (by simpa using h4);omega
  ·subst e;unfold own1 at ha;split at ha
   ·rw [List.mem_singleton] at ha;subst ha;obtain ⟨j,d,h1,h2⟩:=cO.mp hb;have:=h 0 (j + 1) _ d a rfl rfl (by simpa using h1) (by simpa using h2);omega
   ·simp at ha
theorem get_set {α:Type} {l:List α} {i j:Nat} {x y:α} (h:(l.set i x)[j]?=some y):(j=i∧y=x∧i < l.length)∨(j≠i∧l[j]?=some y):=by
 by_cases e:i=j
 ·subst e;rw [List.getElem?_set,if_pos rfl] at h;split at h
  ·rename_i hl;cases h;exact .inl ⟨rfl,rfl,hl⟩
  ·cases h
 ·rw [List.getElem?_set_ne e] at h;exact .inr ⟨fun z=>e z.symm,h⟩
theorem Kr {α:Type} {l:List α} {i:Nat} {x:α} (h:i < l.length):(l.set i x)[i]?=some x:=by
 rw [List.getElem?_set,if_pos rfl,if_pos h]
theorem kI {env:En} {σ:St} {i:Nat} {x:Vl} {v:V} {a:Addr} (h:a∈bD (env.set i (some x)) (σ.set i (some v))):a∈bD env σ∨(∃d,x=.ow d)∧v=.ref a:=by
 obtain ⟨j,d,h1,h2⟩:=cO.mp h;rcases get_set h1 with ⟨rfl,e,_⟩ | ⟨n,h1⟩
 ·rcases get_set h2 with ⟨_,e2,_⟩ | ⟨n,_⟩
  ·cases e;cases e2;exact .inr ⟨⟨d,rfl⟩,rfl⟩
  ·exact absurd rfl n
 ·rcases get_set h2 with ⟨e,_,_⟩ | ⟨_,h2⟩
  ·exact absurd e n
  ·exact .inl (cO.mpr ⟨j,d,h1,h2⟩)
section
variable {K:PySem.W.Frag} {Z Θ:List Addr} {env:En} {C:Ce} {σ:St} {H:Hp} {a:Addr} {i:Nat} {v:V}
theorem Sm.j5 (S:Sm K Z Θ env C σ H):Z.Nodup∧Θ.Nodup∧(bD env σ).Nodup∧(∀b∈Z,b∉Θ):=by
 have h:=S.nd;rw [List.nodup_append,List.nodup_append] at h;obtain ⟨h1,⟨h2,h3,_⟩,h4⟩:=h;exact ⟨h1,h2,h3,fun b m m'=>h4 b m b (List.mem_append_left _ m') rfl⟩
theorem XF {Z Θ O:List Addr} (h1:Z.Nodup) (h2:Θ.Nodup) (h3:O.Nodup) (h4:∀b∈Z,b∉Θ) (h5:∀b∈O,b∉Z∧b∉Θ):(Z++(Θ++O)).Nodup:=by
 rw [List.nodup_append,List.nodup_append];refine ⟨h1,⟨h2,h3,fun b m c m' e=>?_⟩,fun b m c m' e=>?_⟩
 ·subst e;exact (h5 b m').2 m
 ·subst e;rcases List.mem_append.mp m' with m' | m'
  ·exact h4 b m m'
  ·exact (h5 b m').1 m
theorem Sm.IV (S:Sm K Z Θ env C σ H) {x:Vl} (hx:∀d,x≠.ow d) (r:M8 K (er (aR Z Θ env σ) H) H Θ x v):Sm K Z Θ (env.set i (some x)) C (σ.set i (some v)) H:=by
 have sub:∀b,b∈bD (env.set i (some x)) (σ.set i (some v))→b∈bD env σ:=fun b m=>by
  rcases kI m with m | ⟨⟨d,e⟩,_⟩
  ·exact m
  ·exact absurd e (hx d)
 have j5:=S.j5;have sm:bu (er (aR Z Θ env σ) H) (er (aR Z Θ (env.set i (some x)) (σ.set i (some v))) H):=lB fun b m=>by
  rcases List.mem_append.mp m with m | m
  ·exact List.mem_append_left _ m
  ·rcases List.mem_append.mp m with m | m
   ·exact List.mem_append_right _ (List.mem_append_left _ m)
   ·exact List.mem_append_right _ (List.mem_append_right _ (sub b m))
 refine ⟨by rw [List.length_set,List.length_set];exact S.len,?_,S.dom,fun j y e=>?_,S.cell⟩
 ·refine XF j5.1 j5.2.1 (uL fun p q d e b h1 h2 h3 h4=>?_) j5.2.2.2 fun b m=>S.fZ (sub b m)
  rcases get_set h1 with ⟨rfl,e1,_⟩ | ⟨n1,h1⟩
  ·cases e1;exact absurd rfl (hx d)
  ·rcases get_set h3 with ⟨rfl,e1,_⟩ | ⟨n2,h3⟩
   ·cases e1;exact absurd rfl (hx e)
   ·rcases get_set h2 with ⟨e2,_,_⟩ | ⟨_,h2⟩
    ·exact absurd e2 n1
    ·rcases get_set h4 with ⟨e4,_,_⟩ | ⟨_,h4⟩
     ·exact absurd e4 n2
     ·exact sW j5.2.2.1 h1 h2 h3 h4
 ·rcases get_set e with ⟨rfl,e1,hl⟩ | ⟨n,e⟩
  ·cases e1;exact ⟨v,Kr (by rw [S.len];exact hl),r.same sm fun d b ex _=>absurd ex (hx d)⟩
  ·obtain ⟨u,e1,r1⟩:=S.slot j y e;exact ⟨u,by rw [List.getElem?_set_ne (Ne.symm n)];exact e1,r1.same sm fun _ _ _ _ _ h=>h⟩
theorem Sm.Z3 (S:Sm K (a::Z) Θ env C σ H) {d:PyData} (r:mq (er (aR (a::Z) Θ env σ) H) H a d):Sm K Z Θ (env.set i (some (.ow d))) C (σ.set i (some (.ref a))) H:=by
 have sub:∀b,b∈bD (env.set i (some (.ow d))) (σ.set i (some (.ref a)))→b∈bD env σ∨b=a:=fun b m=>by
  rcases kI m with m | ⟨_,e⟩
  ·exact .inl m
  ·cases e;exact .inr rfl
 have j5:=S.j5;have Z4:=List.nodup_cons.mp j5.1;have sm:bu (er (aR (a::Z) Θ env σ) H) (er (aR Z Θ (env.set i (some (.ow d))) (σ.set i (some (.ref a)))) H):=lB fun b m=>by
  rcases List.mem_append.mp m with m | m
  ·exact List.mem_append_left _ (List.mem_cons_of_mem _ m)
  ·rcases List.mem_append.mp m with m | m
   ·exact List.mem_append_right _ (List.mem_append_left _ m)
   ·rcases sub b m with m | rfl
    ·exact List.mem_append_right _ (List.mem_append_right _ m)
    ·exact List.mem_append_left _ List.mem_cons_self
 have Z5:a∉bD env σ:=fun m=>(S.fZ m).1 List.mem_cons_self
 refine ⟨by rw [List.length_set,List.length_set];exact S.len,?_,fun b m=>S.dom b (List.mem_cons_of_mem _ m),fun j y e=>?_,S.cell⟩
 ·refine XF Z4.2 j5.2.1 (uL fun p q d1 e b h1 h2 h3 h4=>?_) (fun b m=>j5.2.2.2 b (List.mem_cons_of_mem _ m)) fun b m=>?_
  ·rcases get_set h1 with ⟨rfl,e1,_⟩ | ⟨n1,h1⟩
   ·rcases get_set h3 with ⟨e3,_,_⟩ | ⟨n2,h3⟩
    ·exact e3.symm
    ·rcases get_set h2 with ⟨_,e2,_⟩ | ⟨n,_⟩
     ·cases e2;rcases get_set h4 with ⟨e4,_,_⟩ | ⟨_,h4⟩
      ·exact e4.symm
      ·exact absurd (cO.mpr ⟨q,e,h3,h4⟩) Z5
     ·exact absurd rfl n
   ·rcases get_set h2 with ⟨e2,_,_⟩ | ⟨_,h2'⟩
    ·exact absurd e2 n1
    ·have mp:=cO.mpr ⟨p,d1,h1,h2'⟩;rcases get_set h3 with ⟨rfl,e3,_⟩ | ⟨n2,h3⟩
     ·rcases get_set h4 with ⟨_,e4,_⟩ | ⟨n,_⟩
      ·cases e4;exact absurd mp Z5
      ·exact absurd rfl n
     ·rcases get_set h4 with ⟨e4,_,_⟩ | ⟨_,h4⟩
      ·exact absurd e4 n2
      ·exact sW j5.2.2.1 h1 h2' h3 h4
  ·rcases sub b m with m | rfl
   ·obtain ⟨p,q⟩:=S.fZ m;exact ⟨fun z=>p (List.mem_cons_of_mem _ z),q⟩
   ·exact ⟨Z4.1,j5.2.2.2 b List.mem_cons_self⟩
 ·rcases get_set e with ⟨rfl,e1,hl⟩ | ⟨n,e⟩
  ·cases e1;exact ⟨_,Kr (by rw [S.len];exact hl),a,rfl,r.same sm fun _ h=>h⟩
  ·obtain ⟨u,e1,r1⟩:=S.slot j y e;exact ⟨u,by rw [List.getElem?_set_ne (Ne.symm n)];exact e1,r1.same sm fun _ _ _ _ _ h=>h⟩
theorem Res.set {H0:Hp} {r:Vl} (h:Res K Z Θ env C σ H0 H r v):Sm K Z Θ (env.set i (some r)) C (σ.set i (some v)) H:=by
 cases r with
 | im d=>exact h.1.IV (fun _ e=>nomatch e) h.2
 | ow d=>obtain ⟨a,rfl,_,S,r⟩:=h;exact S.Z3 r
 | ce n=>exact h.1.IV (fun _ e=>nomatch e) h.2
 | sc ns=>exact h.1.IV (fun _ e=>nomatch e) h.2
end
inductive Fl where
 | nx | rt (r:Vl) | bk | ct
abbrev FS:=En→Ce→Option (Fl×En×Ce)
structure zA (Θ Θ':List Addr) (H:Hp):Prop where
 ex:∃Δ,Θ'=Θ++Δ∧∀a∈Δ,H a=none
theorem zA.refl (Θ:List Addr) (H:Hp):zA Θ Θ H:=⟨[],by rw [List.append_nil],fun _ m=>nomatch m⟩
structure lV (K:PySem.W.Frag) (Z Θ:List Addr) (env:En) (σ:St) (H:Hp) (Θ':List Addr) (env':En) (C':Ce) (σ':St) (H':Hp):Prop where
 th:zA Θ Θ' H
 kp:bY (Θ++bD env σ) H H'
 own:∀a∈bD env' σ',a∈bD env σ∨H a=none
 sm:Sm K Z Θ' env' C' σ' H'
def Ks (K:PySem.W.Frag) (Z Θ:List Addr) (C:Ce) (own:List Addr) (H H':Hp):Vl→V→Prop
 | .im d,v=>Sm K Z Θ [] C [] H'∧RZ (er (aR Z Θ [] []) H') d v
 | .ow d,v=>∃a,v=.ref a∧(a∈own∨H a=none)∧Sm K (a::Z) Θ [] C [] H'∧mq (er (aR (a::Z) Θ [] []) H') H' a d
 | .ce n,v=>Sm K Z Θ [] C [] H'∧∃a,v=.ref a∧Θ[n]?=some a
 | .sc ns,v=>Sm K Z Θ [] C [] H'∧∃a,v=.ref a∧di K (er (aR Z Θ [] []) H') a (ns.map V.int)
structure RtP (K:PySem.W.Frag) (Z Θ:List Addr) (env:En) (σ:St) (H:Hp) (Θ':List Addr) (C':Ce) (r:Vl) (v:V) (H':Hp):Prop where
 th:zA Θ Θ' H
 kp:bY (Θ++bD env σ) H H'
 ok:Ks K Z Θ' C' (bD env σ) H H' r v
def Ur (K:PySem.W.Frag) (Z Θ:List Addr) (env:En) (σ:St) (H:Hp) (env':En) (C':Ce) (D:Ends):Fl→Prop
 | .nx=>∀Θ' σ' H',lV K Z Θ env σ H Θ' env' C' σ' H'→D.nx σ' H'
 | .bk=>∀Θ' σ' H',lV K Z Θ env σ H Θ' env' C' σ' H'→D.bk σ' H'
 | .ct=>∀Θ' σ' H',lV K Z Θ env σ H Θ' env' C' σ' H'→D.ct σ' H'
 | .rt r=>∀Θ' v H',RtP K Z Θ env σ H Θ' C' r v H'→D.rt v H'
inductive tS (K:PySem.W.Frag) (f:FS) (D:Ends) (σ:St) (H:Hp):Prop
 | mk (Z Θ:List Addr) (env:En) (C:Ce) (fl:Fl) (env':En) (C':Ce) (S:Sm K Z Θ env C σ H) (hf:f env C=some (fl,env',C')) (q:Ur K Z Θ env σ H env' C' D fl):tS K f D σ H
section
variable {K:PySem.W.Frag} {Z Θ Θ1 Θ2:List Addr} {env e1 e2:En} {C C1 C2:Ce} {σ σ1 σ2:St} {H H1 H2:Hp}
theorem zA.trans (h:zA Θ Θ1 H) (k:∀a,H a≠none→H1 a≠none) (g:zA Θ1 Θ2 H1):zA Θ Θ2 H:=by
 obtain ⟨Δ,e,n⟩:=h.ex;obtain ⟨Δ',e',n'⟩:=g.ex;refine ⟨Δ++Δ',by rw [e',e,List.append_assoc],fun a m=>?_⟩;rcases List.mem_append.mp m with m | m
 ·exact n a m
 ·cases h:H a with
  | none=>rfl
  | some o=>exact absurd (n' a m) (k a (by rw [h];exact Option.some_ne_none _))
theorem Fj (th:zA Θ Θ1 H) (k1:bY (Θ++bD env σ) H H1) (ow:∀a∈bD e1 σ1,a∈bD env σ∨H a=none) (k2:bY (Θ1++bD e1 σ1) H1 H2):bY (Θ++bD env σ) H H2:=by
 refine ⟨fun a o e n=>k2.keep a o (k1.keep a o e n) fun m=>n ?_,fun a e=>k2.dom a (k1.dom a e)⟩;have hn:H a≠none:=by rw [e];exact Option.some_ne_none _
 rcases List.mem_append.mp m with m | m
 ·obtain ⟨Δ,e',n'⟩:=th.ex;rw [e'] at m;rcases List.mem_append.mp m with m | m
  ·exact List.mem_append_left _ m
  ·exact absurd (n' a m) hn
 ·rcases ow a m with m | m
  ·exact List.mem_append_right _ m
  ·exact absurd m hn
theorem lV.trans (p:lV K Z Θ env σ H Θ1 e1 C1 σ1 H1) (q:lV K Z Θ1 e1 σ1 H1 Θ2 e2 C2 σ2 H2):lV K Z Θ env σ H Θ2 e2 C2 σ2 H2 where
 th:=p.th.trans p.kp.dom q.th
 kp:=Fj p.th p.kp p.own q.kp
 own:=fun a m=>by
  rcases q.own a m with m | m
  ·exact p.own a m
  ·exact .inr (p.kp.none m)
 sm:=q.sm
theorem lV.ret {r:Vl} {v:V} (p:lV K Z Θ env σ H Θ1 e1 C1 σ1 H1) (q:RtP K Z Θ1 e1 σ1 H1 Θ2 C2 r v H2):RtP K Z Θ env σ H Θ2 C2 r v H2 where
 th:=p.th.trans p.kp.dom q.th
 kp:=Fj p.th p.kp p.own q.kp
 ok:=by
  have h:=q.ok;cases r with
  | im d=>exact h
  | ow d=>
   obtain ⟨a,e,m,S,r⟩:=h;refine ⟨a,e,?_,S,r⟩;rcases m with m | m
   ·exact p.own a m
   ·exact .inr (p.kp.none m)
  | ce n=>exact h
  | sc ns=>exact h
theorem Ur.trans {D:Ends} {fl:Fl} (p:lV K Z Θ env σ H Θ1 e1 C1 σ1 H1) (h:Ur K Z Θ env σ H e2 C2 D fl):Ur K Z Θ1 e1 σ1 H1 e2 C2 D fl:=by
 cases fl with
 | nx=>exact fun Θ' σ' H' q=>h Θ' σ' H' (p.trans q)
 | bk=>exact fun Θ' σ' H' q=>h Θ' σ' H' (p.trans q)
 | ct=>exact fun Θ' σ' H' q=>h Θ' σ' H' (p.trans q)
 | rt r=>exact fun Θ' v H' q=>h Θ' v H' (p.ret q)
theorem jq {O:List Addr} (k:bY Θ H H1):bY (Θ++O) H H1:=⟨fun a o e n=>k.keep a o e fun m=>n (List.mem_append_left _ m),k.dom⟩
theorem lV.Qy (k:bY Θ H H1) (f:Fz env e1) (S:Sm K Z Θ e1 C1 σ H1):lV K Z Θ env σ H Θ e1 C1 σ H1:=
 ⟨zA.refl _ _,jq k,fun a m=>.inl (f.own.subset m),S⟩
end
def fNext:FS:=fun env C=>some (.nx,env,C)
def fSeq (f g:FS):FS:=fun env C=>match f env C with
 | some (.nx,e1,C1)=>g e1 C1
 | r=>r
def jr (c:FT) (f g:FS):FS:=fun env C=>match c env C with
 | some (true,C1)=>f env C1
 | some (false,C1)=>g env C1
 | none=>none
def fRet (f:FE):FS:=fun env C=>match f env C with
 | some (r,e1,C1)=>some (.rt r,e1,C1)
 | none=>none
def fRetV (i:Nat):FS:=fun env C=>match env[i]? with
 | some (some x)=>some (.rt x,env,C)
 | _=>none
def fSet (i:Nat) (f:FE):FS:=fun env C=>match f env C with
 | some (r,e1,C1)=>some (.nx,e1.set i (some r),C1)
 | none=>none
section
variable {X:Cx} {st:Stmt} {rest:List Stmt} {pos:Pos}
theorem lV.same {K:PySem.W.Frag} {Z Θ:List Addr} {env:En} {C:Ce} {σ:St} {H:Hp} (S:Sm K Z Θ env C σ H):lV K Z Θ env σ H Θ env C σ H:=lV.Qy (bY.refl _ _) (Fz.refl _) S
theorem eY:vI X [] (tS X.K fNext):=S9.weak fun D σ H aZ=>by
 obtain ⟨Z,Θ,env,C,fl,env',C',S,hf,q⟩:=aZ;cases hf;exact q Θ σ H (lV.same S)
theorem aW {f:FS} (h:PS X st (tS X.K f)):vI X [st] (tS X.K f):=Tc h
theorem Qz {K:PySem.W.Frag} {f g:FS}:∀D σ H,tS K (fSeq f g) D σ H→YT (tS K f) (tS K g) D σ H:=by
 rintro D σ H ⟨Z,Θ,env,C,fl,env',C',S,hf,q⟩;unfold fSeq at hf;split at hf
 ·rename_i e1 C1 h1;exact ⟨Z,Θ,env,C,.nx,e1,C1,S,h1,fun Θ1 σ1 H1 p=>⟨Z,Θ1,e1,C1,fl,env',C',p.sm,hf,q.trans p⟩⟩
 ·rename_i hne;refine ⟨Z,Θ,env,C,fl,env',C',S,hf,?_⟩;cases fl with
  | nx=>exact absurd hf (hne _ _)
  | bk=>exact q
  | ct=>exact q
  | rt r=>exact q
theorem aJ {f g:FS} (h:PS X st (tS X.K f)) (hr:vI X rest (tS X.K g)):vI X (st::rest) (tS X.K (fSeq f g)):=(Oh h hr).weak Qz
theorem jc {c:Expr} {a b:List Stmt} {t:FT} {f g:FS} (hc:PT X c (nM X.K t)) (ha:vI X a (tS X.K f)) (hb:vI X b (tS X.K g)):PS X (.If c a b pos) (tS X.K (jr t f g)):=(YX hc ha hb).weak fun D σ H aZ=>by
 obtain ⟨Z,Θ,env,C,fl,env',C',S,hf,q⟩:=aZ;unfold jr at hf;split at hf
 ·rename_i C1 h1;exact ⟨Z,Θ,env,C,true,C1,S,h1,fun H1 k1 S1=>Eg ⟨Z,Θ,env,C1,fl,env',C',S1,hf,q.trans (lV.Qy k1 (Fz.refl _) S1)⟩⟩
 ·rename_i C1 h1;exact ⟨Z,Θ,env,C,false,C1,S,h1,fun H1 k1 S1=>Ef ⟨Z,Θ,env,C1,fl,env',C',S1,hf,q.trans (lV.Qy k1 (Fz.refl _) S1)⟩⟩
 ·cases hf
theorem Sm.none {K:PySem.W.Frag} {Z Θ:List Addr} {env:En} {C:Ce} {σ:St} {H:Hp} (S:Sm K Z Θ env C σ H):Sm K Z Θ [] C [] H:=by
 have j5:=S.j5;exact ⟨rfl,XF j5.1 j5.2.1 List.nodup_nil j5.2.2.2 (fun _ m=>nomatch m),S.dom,fun i x e=>by simp at e,S.cell⟩
theorem oY {Z Θ:List Addr} {env:En} {σ:St} {H:Hp}:bu (er (aR Z Θ env σ) H) (er (aR Z Θ [] []) H):=lB fun b m=>by
 rcases List.mem_append.mp m with m | m
 ·exact List.mem_append_left _ m
 ·rcases List.mem_append.mp m with m | m
  ·exact List.mem_append_right _ (List.mem_append_left _ m)
  ·nomatch m
theorem Res.ret {K:PySem.W.Frag} {Z Θ:List Addr} {env:En} {C:Ce} {σ:St} {H H':Hp} {O:List Addr} {r:Vl} {v:V} (h:Res K Z Θ env C σ H H' r v):Ks K Z Θ C O H H' r v:=by
 cases r with
 | im d=>exact ⟨h.1.none,h.2.same oY⟩
 | ow d=>obtain ⟨a,e,n,S,r⟩:=h;exact ⟨a,e,.inr n,S.none,r.same oY fun _ h=>h⟩
 | ce n=>exact ⟨h.1.none,h.2⟩
 | sc ns=>obtain ⟨S,a,e,q⟩:=h;exact ⟨S.none,a,e,oY.seq q⟩
theorem cC {e:Expr} {f:FE} (h:PE X e (tE X.K f)):PS X (.Return (some e) pos) (tS X.K (fRet f)):=(Oi h).weak fun D σ H aZ=>by
 obtain ⟨Z,Θ,env,C,fl,env',C',S,hf,q⟩:=aZ;unfold fRet at hf;split at hf
 ·rename_i r e1 C1 h1;cases hf;exact ⟨Z,Θ,env,C,r,env',C',S,h1,fun v H1 k f R=>q Θ v H1 ⟨zA.refl _ _,jq k,R.ret⟩⟩
 ·cases hf
theorem jt {e:Expr} {i:Nat} (h:PE X e (wF i)):PS X (.Return (some e) pos) (tS X.K (fRetV i)):=(Oi h).weak fun D σ H aZ=>by
 obtain ⟨Z,Θ,env,C,fl,env',C',S,hf,q⟩:=aZ;unfold fRetV at hf;split at hf
 ·rename_i x hx;cases hf;obtain ⟨v,e1,r⟩:=S.slot i x hx;refine ⟨v,e1,q Θ v H ⟨zA.refl _ _,bY.refl _ _,?_⟩⟩;cases x with
  | im d=>exact ⟨S.none,RZ.same oY r⟩
  | ow d=>
   obtain ⟨a,rfl,r⟩:=r;have m:a∈bD env σ:=cO.mpr ⟨i,d,hx,e1⟩;have sm:bu (er (aR Z Θ env σ) H) (er (aR (a::Z) Θ [] []) H):=lB fun b mb=>by
    rcases List.mem_append.mp mb with mb | mb
    ·rcases List.mem_cons.mp mb with rfl | mb
     ·exact List.mem_append_right _ (List.mem_append_right _ m)
     ·exact List.mem_append_left _ mb
    ·rcases List.mem_append.mp mb with mb | mb
     ·exact List.mem_append_right _ (List.mem_append_left _ mb)
     ·nomatch mb
   have j5:=S.j5;refine ⟨a,rfl,.inl m,⟨rfl,XF (List.nodup_cons.mpr ⟨(S.fZ m).1,j5.1⟩) j5.2.1 List.nodup_nil (fun b mb=>?_) (fun _ m=>nomatch m),fun b mb=>?_,fun i x e=>by simp at e,S.cell⟩,r.same sm fun _ h=>h⟩
   ·rcases List.mem_cons.mp mb with rfl | mb
    ·exact (S.fZ m).2
    ·exact j5.2.2.2 b mb
   ·rcases List.mem_cons.mp mb with rfl | mb
    ·exact r.nt
    ·exact S.dom b mb
  | ce n=>exact ⟨S.none,r⟩
  | sc ns=>obtain ⟨a,e,q⟩:=r;exact ⟨S.none,a,e,oY.seq q⟩
 ·cases hf
theorem xV {K:PySem.W.Frag} {i:Nat} {t:TE} {f:FE} (w:∀σ H Q,tE K f σ H Q→t σ H Q):∀D σ H,tS K (fSet i f) D σ H→LC t (u9 i) D σ H:=by
 rintro D σ H ⟨Z,Θ,env,C,fl,env',C',S,hf,q⟩;unfold fSet at hf;split at hf
 ·rename_i r e1 C1 h1;cases hf;refine w _ _ _ ⟨Z,Θ,env,C,r,e1,C',S,h1,fun v H1 k f R=>q Θ _ H1 ⟨zA.refl _ _,jq k,fun a m=>?_,R.set⟩⟩;rcases kI m with m | ⟨⟨d,e⟩,e2⟩
  ·exact .inl (f.own.subset m)
  ·subst e;obtain ⟨b,e3,n,_⟩:=R;rw [e2] at e3;cases e3;exact .inr n
 ·cases hf
theorem bC {i:Nat} {x:Str} {e:Expr} {f:FE} {pos':Pos} (hN:X.N.Nodup) (hi:X.N[i]?=some x) (hx:Loc X.env.scope x) (he:PE X e (tE X.K f)) (hs:swapsWith e (some (.Name x pos')) pos.line X.env=pure false:=by rfl) (hf:X.fn x=true∨X.env.scope.names.lookup x=some .local:=by first | exact .inl rfl | exact .inr rfl | assumption):
  PS X (.Assign [.Name x pos'] e pos) (tS X.K (fSet i f)):=(Om hN hi hx he hs hf).weak (xV fun _ _ _ h=>h)
end
abbrev FG:=PyData→En→Option En
abbrev XH:=List PyData→En→Option En
def Yz (K:PySem.W.Frag) (g:TG) (fg:FG):Prop:=∀(Z Θ:List Addr) (env:En) (C:Ce) (σ:St) (H:Hp) (v:V) (d:PyData) (env':En),Sm K Z Θ env C σ H→RZ (er (aR Z Θ env σ) H) d v→fg d env=some env'→
 ∀Q:St→Hp→Prop,(∀σ',Sm K Z Θ env' C σ' H→(∀a∈bD env' σ',a∈bD env σ)→Q σ' H)→g v σ H Q
def Us (K:PySem.W.Frag) (g:Oj) (fg:XH):Prop:=∀(Z Θ:List Addr) (env:En) (C:Ce) (σ:St) (H:Hp) (vs:List V) (ds:List PyData) (env':En),Sm K Z Θ env C σ H→gn (er (aR Z Θ env σ) H) ds vs→fg ds env=some env'→
 ∀Q:St→Hp→Prop,(∀σ',Sm K Z Θ env' C σ' H→(∀a∈bD env' σ',a∈bD env σ)→Q σ' H)→g vs σ H Q
def gNm (i:Nat):FG:=fun d env=>some (env.set i (some (.im d)))
def gsNil:XH:=fun ds env=>match ds with
 | []=>some env
 | _=>none
def gsCons (g:FG) (u:XH):XH:=fun ds env=>match ds with
 | d::r=>match g d env with
  | some e1=>u r e1
  | none=>none
 | []=>none
def gTp (n:Nat) (u:XH):FG:=fun d env=>match d with
 | .tuple ds=>if ds.length=n then u ds env else none
 | _=>none
theorem QB {Z Θ:List Addr} {env e1:En} {σ σ1:St} {H:Hp} (h:∀a∈bD e1 σ1,a∈bD env σ):bu (er (aR Z Θ env σ) H) (er (aR Z Θ e1 σ1) H):=lB fun b m=>by
 rcases List.mem_append.mp m with m | m
 ·exact List.mem_append_left _ m
 ·rcases List.mem_append.mp m with m | m
  ·exact List.mem_append_right _ (List.mem_append_left _ m)
  ·exact List.mem_append_right _ (List.mem_append_right _ (h b m))
section
variable {K:PySem.W.Frag}
theorem cN {i:Nat}:Yz K (u9 i) (gNm i):=by
 intro Z Θ env C σ H v d env' S r e Q q;cases e;refine q _ (S.IV (fun _ z=>nomatch z) r) fun a m=>?_
 rcases kI m with m | ⟨⟨_,z⟩,_⟩
 ·exact m
 ·cases z
theorem BW:Us K Wu gsNil:=by
 intro Z Θ env C σ H vs ds env' S r e Q q;unfold gsNil at e;split at e
 ·cases e;exact ⟨r,q _ S fun _ m=>m⟩
 ·cases e
theorem gC {g:TG} {u:Oj} {fg:FG} {fu:XH} (h:Yz K g fg) (hu:Us K u fu):Us K (Ol g u) (gsCons fg fu):=by
 intro Z Θ env C σ H vs ds env' S r e Q q;unfold gsCons at e;split at e
 ·rename_i d r';obtain ⟨v,ws,rfl,r1,r2⟩:=r;split at e
  ·rename_i e1 h1;refine ⟨v,ws,rfl,h Z Θ env C σ H v d e1 S r1 h1 _ fun σ1 S1 o1=>?_⟩;exact hu Z Θ e1 C σ1 H ws r' env' S1 (r2.same (QB o1)) e Q fun σ2 S2 o2=>q σ2 S2 fun a m=>o1 a (o2 a m)
  ·cases e
 ·cases e
theorem IW {n:Nat} {u:Oj} {fu:XH} (hu:Us K u fu):Yz K (Wv K n u) (gTp n fu):=by
 intro Z Θ env C σ H v d env' S r e Q q;unfold gTp at e;split at e
 ·rename_i ds;split at e
  ·rename_i hl;obtain ⟨a,vs,rfl,ha,r⟩:=r;exact ⟨a,vs,rfl,jD.of (bZ ha),(bW r).trans hl,hu Z Θ env C σ H vs ds env' S r e Q q⟩
  ·cases e
 ·cases e
end
def fUnp (f:FE) (g:FG):FS:=fun env C=>match f env C with
 | some (r,e1,C1)=>match still r with
  | .im d=>match g d e1 with
   | some e2=>some (.nx,e2,C1)
   | none=>none
  | _=>none
 | none=>none
theorem Res.qH {K:PySem.W.Frag} {Z Θ:List Addr} {env:En} {C:Ce} {σ:St} {H H':Hp} {r:Vl} {v:V} {d:PyData} (h:Res K Z Θ env C σ H H' r v) (e:L2.still r=.im d):Sm K Z Θ env C σ H'∧RZ (er (aR Z Θ env σ) H') d v:=by
 have g:=h.still;rw [e] at g;exact g
section
variable {X:Cx} {pos:Pos}
theorem QC {tg e:Expr} {f:FE} {g:TG} {fg:FG} (he:PE X e (tE X.K f)) (hg:PG X tg g) (L:Yz X.K g fg) (hs:swapsWithSole [tg] e pos.line X.env=pure false:=by rfl) (hw:swappedStores [tg] e X.env=pure none:=by rfl) (h1:(assignEach [tg] X.env).map (·.2)=[assign tg X.env]:=by rfl):
  PS X (.Assign [tg] e pos) (tS X.K (fUnp f fg)):=(Hl he hg hs hw h1).weak fun D σ H aZ=>by
 obtain ⟨Z,Θ,env,C,fl,env',C',S,hf,q⟩:=aZ;unfold fUnp at hf;split at hf
 ·rename_i r e1 C1 h1;split at hf
  ·rename_i d hd;split at hf
   ·rename_i e2 h2;cases hf;refine ⟨Z,Θ,env,C,r,e1,C',S,h1,fun v H1 k f R=>?_⟩;obtain ⟨S1,r1⟩:=R.qH hd;exact L Z Θ e1 C' σ H1 v d env' S1 r1 h2 D.nx fun σ' S' o=>q Θ σ' H1 ⟨zA.refl _ _,jq k,fun a m=>.inl (f.own.subset (o a m)),S'⟩
   ·cases hf
  ·cases hf
 ·cases hf
end
inductive jN (K:PySem.W.Frag) (E H:Hp) (Θ:List Addr):List Addr→List Vl→List V→Prop
 | nil:jN K E H Θ [] [] []
 | cons {as:List Addr} {x:Vl} {v:V} {xs:List Vl} {vs:List V}:sZ K E Θ x v→jN K E H Θ as xs vs→jN K E H Θ as (x::xs) (v::vs)
 | own {as:List Addr} {a:Addr} {d:PyData} {xs:List Vl} {vs:List V}:mq E H a d→jN K E H Θ as xs vs→jN K E H Θ (as++[a]) (.ow d::xs) (.ref a::vs)
theorem jN.same {K:PySem.W.Frag} {E E' H:Hp} {Θ as:List Addr} {xs:List Vl} {vs:List V} (s:bu E E') (h:jN K E H Θ as xs vs):jN K E' H Θ as xs vs:=by
 induction h with
 | nil=>exact .nil
 | cons a _ ih=>exact .cons (a.same s) ih
 | own r _ ih=>exact .own (r.same s fun _ h=>h) ih
theorem jN.heap {K:PySem.W.Frag} {E H H':Hp} {Θ as:List Addr} {xs:List Vl} {vs:List V} (s:bu H H') (h:jN K E H Θ as xs vs):jN K E H' Θ as xs vs:=by
 induction h with
 | nil=>exact .nil
 | cons a _ ih=>exact .cons a ih
 | own r _ ih=>exact .own (r.same (bu.refl _) fun o ho=>s _ _ ho) ih
inductive V4 (K:PySem.W.Frag) (f:FA) (σ:St) (H:Hp) (Q:List V→Hp→Prop):Prop
 | mk (Z Θ:List Addr) (env:En) (C:Ce) (xs:List Vl) (env':En) (C':Ce) (S:Sm K Z Θ env C σ H) (hf:f env C=some (xs,env',C')) (q:∀vs as H',bY Θ H H'→Fz env env'→(∀a∈as,H a=none)→Sm K (as++Z) Θ env' C' σ H'→jN K (er (aR (as++Z) Θ env' σ) H') H' Θ as xs vs→Q vs H'):V4 K f σ H Q
def oCons (f:FE) (g:FA):FA:=fun env C=>match f env C with
 | some (r,e1,C1)=>match g e1 C1 with
  | some (xs,e2,C2)=>some (r::xs,e2,C2)
  | none=>none
 | none=>none
section
variable {K:PySem.W.Frag} {Z Z' Θ:List Addr} {env:En} {C:Ce} {σ:St} {H:Hp}
theorem bV {a:Addr}:a∈aR Z Θ env σ ↔ a∈Z∨a∈Θ∨a∈bD env σ:=by rw [List.mem_append,List.mem_append]
theorem Sm.perm (S:Sm K Z Θ env C σ H) (p:Z.Perm Z'):Sm K Z' Θ env C σ H:=by
 have e:er (aR Z Θ env σ) H=er (aR Z' Θ env σ) H:=jM fun a=>by rw [bV,bV,p.mem_iff]
 refine ⟨S.len,(List.Perm.append_right _ p).nodup S.nd,fun a m=>S.dom a (p.mem_iff.mpr m),fun i x h=>?_,S.cell⟩;rw [←e];exact S.slot i x h
end
section
variable {X:Cx} {e:Expr} {es:List Expr} {pos:Pos}
theorem rD:PA X [] (V4 X.K aNil):=jH.weak fun σ H Q aZ=>by
 obtain ⟨Z,Θ,env,C,xs,env',C',S,hf,q⟩:=aZ;cases hf;exact q [] [] H (bY.refl _ _) (Fz.refl _) (fun _ m=>nomatch m) S .nil
theorem dH {f:FE} {g:FA} (h:PE X e (tE X.K f)) (hr:PA X es (V4 X.K g)) (hs:starEach (e::es) X.env=(false,eval e X.env)::starEach es X.env:=by rfl):PA X (e::es) (V4 X.K (oCons f g)):=(dZ h hr hs).weak fun σ H Q aZ=>by
 obtain ⟨Z,Θ,env,C,xs,env',C',S,hf,q⟩:=aZ;unfold oCons at hf;split at hf
 ·rename_i r e1 C1 h1;split at hf
  ·rename_i ys e2 C2 h2;cases hf;refine ⟨Z,Θ,env,C,r,e1,C1,S,h1,fun v H1 k1 f1 R1=>?_⟩;have plain:∀{x:Vl},Sm X.K Z Θ e1 C1 σ H1→sZ X.K (er (aR Z Θ e1 σ) H1) Θ x v→r=x→V4 X.K g σ H1 fun xs H2=>Q (v::xs) H2:=fun {x} S1 a1 ex=>by
    subst ex;refine ⟨Z,Θ,e1,C1,ys,env',C',S1,h2,fun vs as H2 k2 f2 n2 S2 a2=>q _ as H2 (k1.trans k2) (f1.trans f2) (fun a m=>k1.none (n2 a m)) S2 (.cons (a1.same (gA k2 S1.Oa fun a m=>?_)) a2)⟩;rcases List.mem_append.mp m with m | m
    ·rcases List.mem_append.mp m with m | m
     ·exact .inr (n2 a m)
     ·exact .inl (List.mem_append_left _ m)
    ·exact .inl (f2.sub (Z:=Z) a (List.mem_append_right _ m))
   cases r with
   | im d=>exact plain (x:=.im d) R1.1 R1.2 rfl
   | ce n=>exact plain (x:=.ce n) R1.1 R1.2 rfl
   | sc ns=>exact plain (x:=.sc ns) R1.1 R1.2 rfl
   | ow d=>
    obtain ⟨a,rfl,hn,S1,r1⟩:=R1;refine ⟨a::Z,Θ,e1,C1,ys,env',C',S1,h2,fun vs as H2 k2 f2 n2 S2 a2=>?_⟩;have ez:as++a::Z=(as++[a])++Z:=by rw [List.append_assoc];rfl
    rw [ez] at S2 a2;have na:a∉Θ:=fun m=>(S1.j5.2.2.2 a List.mem_cons_self) m
    refine q _ (as++[a]) H2 (k1.trans k2) (f1.trans f2) (fun b m=>?_) S2 (.own (r1.same (gA k2 S1.Oa fun b m=>?_) fun o ho=>k2.keep _ _ ho na) a2)
    ·rcases List.mem_append.mp m with m | m
     ·exact k1.none (n2 b m)
     ·rw [List.mem_singleton.mp m];exact hn
    ·rcases List.mem_append.mp m with m | m
     ·rcases List.mem_append.mp m with m | m
      ·rcases List.mem_append.mp m with m | m
       ·exact .inr (n2 b m)
       ·rw [List.mem_singleton.mp m];exact .inl List.mem_cons_self
      ·exact .inl (List.mem_append_left _ (List.mem_cons_of_mem _ m))
     ·exact .inl (f2.sub (Z:=a::Z) b (List.mem_append_right _ m))
  ·cases hf
 ·cases hf
end
def setM {α:Type}:List Nat→List α→List (Option α)→List (Option α)
 | i::is,x::xs,e=>setM is xs (e.set i (some x))
 | _,_,e=>e
theorem BX {K:PySem.W.Frag} {Z Θ:List Addr} {C:Ce} {H:Hp} {E:Hp}:∀{as:List Addr} {xs:List Vl} {vs:List V},jN K E H Θ as xs vs→∀{is:List Nat} {env:En} {σ:St},is.length=xs.length→bu E (er (aR (as++Z) Θ env σ) H)→Sm K (as++Z) Θ env C σ H→
  Sm K Z Θ (setM is xs env) C (setM is vs σ) H∧∀a∈bD (setM is xs env) (setM is vs σ),a∈bD env σ∨a∈as:=by
 intro as xs vs h;induction h with
 | nil=>
  intro is env σ hl _ S;cases is with
  | nil=>exact ⟨S,fun a m=>.inl m⟩
  | cons _ _=>cases hl
 | @cons as x v xs vs a1 _ ih=>
  intro is env σ hl sm S;cases is with
  | nil=>cases hl
  | cons i is=>
   have hx:∀d,x≠.ow d:=fun d z=>by subst z;exact a1
   have sl:M8 K (er (aR (as++Z) Θ env σ) H) H Θ x v:=by
    have a2:=a1.same sm;cases x with
    | im d=>exact a2
    | ow d=>exact absurd rfl (hx d)
    | ce n=>exact a2
    | sc ns=>exact a2
   have S1:Sm K (as++Z) Θ (env.set i (some x)) C (σ.set i (some v)) H:=S.IV hx sl;have o1:∀b∈bD (env.set i (some x)) (σ.set i (some v)),b∈bD env σ:=fun b m=>by
    rcases kI m with m | ⟨⟨d,z⟩,_⟩
    ·exact m
    ·exact absurd z (hx d)
   obtain ⟨S2,o2⟩:=ih (is:=is) (by simpa using hl) (sm.trans (QB o1)) S1;refine ⟨S2,fun b m=>?_⟩;rcases o2 b m with m | m
   ·exact .inl (o1 b m)
   ·exact .inr m
 | @own as a d xs vs r _ ih=>
  intro is env σ hl sm S;cases is with
  | nil=>cases hl
  | cons i is=>
   have pm:((as++[a])++Z).Perm (a::(as++Z)):=by
    rw [List.append_assoc];exact List.perm_middle
   have S0:=S.perm pm;have ee:er (aR ((as++[a])++Z) Θ env σ) H=er (aR (a::(as++Z)) Θ env σ) H:=jM fun b=>by rw [bV,bV,pm.mem_iff]
   rw [ee] at sm;have S1:Sm K (as++Z) Θ (env.set i (some (.ow d))) C (σ.set i (some (.ref a))) H:=S0.Z3 (r.same sm fun _ h=>h);have o1:∀b∈bD (env.set i (some (.ow d))) (σ.set i (some (.ref a))),b∈bD env σ∨b=a:=fun b m=>by
    rcases kI m with m | ⟨_,z⟩
    ·exact .inl m
    ·cases z;exact .inr rfl
   obtain ⟨S2,o2⟩:=ih (is:=is) (by simpa using hl) (sm.trans (lB fun b m=>by
    rcases List.mem_append.mp m with m | m
    ·exact List.mem_append_left _ (List.mem_cons_of_mem _ m)
    ·rcases List.mem_append.mp m with m | m
     ·exact List.mem_append_right _ (List.mem_append_left _ m)
     ·rcases o1 b m with m | rfl
      ·exact List.mem_append_right _ (List.mem_append_right _ m)
      ·exact List.mem_append_left _ List.mem_cons_self)) S1
   refine ⟨S2,fun b m=>?_⟩;rcases o2 b m with m | m
   ·rcases o1 b m with m | rfl
    ·exact .inl m
    ·exact .inr (List.mem_append_right _ (List.mem_singleton.mpr rfl))
   ·exact .inr (List.mem_append_left _ m)
theorem vW {K:PySem.W.Frag} {E H:Hp} {Θ as:List Addr} {xs:List Vl} {vs:List V} (h:jN K E H Θ as xs vs):vs.length=xs.length:=by
 induction h with
 | nil=>rfl
 | cons _ _ ih=>rw [List.length_cons,List.length_cons,ih]
 | own _ _ ih=>rw [List.length_cons,List.length_cons,ih]
def fPar (is:List Nat) (g:FA):FS:=fun env C=>match g env C with
 | some (xs,e1,C1)=>if is.length=xs.length∧xs.length≤LIM then some (.nx,setM is xs e1,C1) else none
 | none=>none
def gsM (is:List Nat):Oj:=match is with
 | []=>Wu
 | i::r=>Ol (u9 i) (gsM r)
theorem Ku:∀{is:List Nat} {vs:List V} {σ:St} {H:Hp} {Q:St→Hp→Prop},is.length=vs.length→Q (setM is vs σ) H→gsM is vs σ H Q
 | [],[],σ,H,Q,_,q=>⟨rfl,q⟩
 | i::is,v::vs,σ,H,Q,h,q=>⟨v,vs,rfl,Ku (by simpa using h) q⟩
 | [],_::_,_,_,_,h,_=>by cases h
 | _::_,[],_,_,_,h,_=>by cases h
section
variable {X:Cx} {pos:Pos}
theorem BZ {i j:Nat} {x y:Str} {a b:Expr} {g:FA} {px py pt:Pos} {kt k2 Ho} (hc:X.calm=true) (hN:X.N.Nodup) (hi:X.N[i]?=some x) (hj:X.N[j]?=some y) (hij:i≠j)
  (hx:X.env.scope.names.lookup x=some .local) (hy:X.env.scope.names.lookup y=some .local) (ha:PA X [a,b] (V4 X.K g))
  (hw:swappedStores [.Tuple [.Name x px,.Name y py] kt pt] (.Tuple [a,b] k2 Ho) X.env=pure (some [x,y]))
  (hs:swapsWithSole [.Tuple [.Name x px,.Name y py] kt pt] (.Tuple [a,b] k2 Ho) pos.line X.env=pure false:=by rfl):
  PS X (.Assign [.Tuple [.Name x px,.Name y py] kt pt] (.Tuple [a,b] k2 Ho) pos) (tS X.K (fPar [i,j] g)):=(Wx hc hN hi hj hij hx hy ha hw hs).weak fun D σ H aZ=>by
 obtain ⟨Z,Θ,env,C,fl,env',C',S,hf,q⟩:=aZ;unfold fPar at hf;split at hf
 ·rename_i xs e1 C1 h1;split at hf
  ·rename_i hl;cases hf;refine ⟨Z,Θ,env,C,xs,e1,C',S,h1,fun vs as H1 k1 f1 n1 S1 a1=>?_⟩;have l2:=vW a1;obtain ⟨S2,o2⟩:=BX a1 hl.1 (bu.refl _) S1;have e2:∃v w,vs=[v,w]:=by
    have:vs.length=2:=by rw [l2,←hl.1];rfl
    match vs,this with
    | [v,w],_=>exact ⟨v,w,rfl⟩
   obtain ⟨v,w,rfl⟩:=e2;refine ⟨v,w,rfl,q Θ _ H1 ⟨zA.refl _ _,jq k1,fun b m=>?_,S2⟩⟩;rcases o2 b m with m | m
   ·exact .inl (f1.own.subset m)
   ·exact .inr (n1 b m)
  ·cases hf
 ·cases hf
theorem Kv {tg:Expr} {es:List Expr} {g:FA} {is:List Nat} {n:Nat} {x1 pt} (ha:PA X es (V4 X.K g)) (hg:PG X tg (Wv X.K n (gsM is))) (hn:n=is.length:=by rfl)
  (hs:swapsWithSole [tg] (.Tuple es x1 pt) pos.line X.env=pure false:=by rfl) (hw:swappedStores [tg] (.Tuple es x1 pt) X.env=pure none:=by rfl) (h1:(assignEach [tg] X.env).map (·.2)=[assign tg X.env]:=by rfl):
  PS X (.Assign [tg] (.Tuple es x1 pt) pos) (tS X.K (fPar is g)):=(Hl (HB ha) hg hs hw h1).weak fun D σ H aZ=>by
 obtain ⟨Z,Θ,env,C,fl,env',C',S,hf,q⟩:=aZ;unfold fPar at hf;split at hf
 ·rename_i xs e1 C1 h1;split at hf
  ·rename_i hl;cases hf;refine ⟨Z,Θ,env,C,xs,e1,C',S,h1,fun vs as H1 k1 f1 n1 S1 a1=>⟨by rw [vW a1];exact fM hl.2,fun p hp=>?_⟩⟩;have l2:=vW a1;refine ⟨p,vs,rfl,jD.of aP,by rw [l2,hn,hl.1],Ku (by rw [hl.1,l2]) ?_⟩;have kp:bY Θ H1 (upd H1 p (.tup vs)):=bY.upd hp;have S1':=S1.xH (bu.upd (o:=.tup vs) hp);have a1':jN X.K (er (aR (as++Z) Θ e1 σ) H1) (upd H1 p (.tup vs)) Θ as xs vs:=a1.heap fun b o ho=>by rw [aV (cJ ho hp)];exact ho
   obtain ⟨S2,o2⟩:=BX a1' hl.1 (gA kp S1.Oa fun b m=>.inl m) S1';refine q Θ _ _ ⟨zA.refl _ _,jq (k1.trans kp),fun b m=>?_,S2⟩;rcases o2 b m with m | m
   ·exact .inl (f1.own.subset m)
   ·exact .inr (n1 b m)
  ·cases hf
 ·cases hf
end
theorem Fo:∀{env:En} {σ:St} {i:Nat} {d d':PyData},env[i]?=some (some (.ow d))→bD (env.set i (some (.ow d'))) σ=bD env σ
 | [],σ,i,d,d',h=>by simp at h
 | x::e,[],i,d,d',h=>by cases i <;> rfl
 | x::e,v::s,0,d,d',h=>by
  simp at h;subst h;show own1 (some (.ow d')) v++bD e s=own1 (some (.ow d)) v++bD e s;rcases v with _ | v
  ·rfl
  ·cases v <;> rfl
 | x::e,v::s,i + 1,d,d',h=>by
  show own1 x v++bD (e.set i (some (.ow d'))) s=own1 x v++bD e s;rw [Fo (by simpa using h)]
section
variable {K:PySem.W.Frag} {Z Θ:List Addr} {env:En} {C:Ce} {σ:St} {H:Hp} {a:Addr} {i:Nat} {d d':PyData} {o:HO}
theorem I9 {P:List Addr} (h:a∈P):er P (upd H a o)=er P H:=by
 funext b;unfold er;by_cases hb:b=a
 ·subst hb;rw [if_pos h,if_pos h]
 ·rw [aV hb]
theorem Sm.write (S:Sm K Z Θ env C σ H) (e1:env[i]?=some (some (.ow d))) (e2:σ[i]?=some (some (.ref a))) (r:mq (er (aR Z Θ env σ) H) (upd H a o) a d'):lV K Z Θ env σ H Θ (env.set i (some (.ow d'))) C σ (upd H a o):=by
 have m:a∈bD env σ:=cO.mpr ⟨i,d,e1,e2⟩;have no:=S.fZ m;have eo:bD (env.set i (some (.ow d'))) σ=bD env σ:=Fo e1;have mp:a∈aR Z Θ env σ:=List.mem_append_right _ (List.mem_append_right _ m);have ep:aR Z Θ (env.set i (some (.ow d'))) σ=aR Z Θ env σ:=by show _++(_++_)=_;rw [eo]
 refine ⟨zA.refl _ _,⟨fun b u hb n=>?_,fun b hb=>?_⟩,fun b mb=>.inl (by rw [eo] at mb;exact mb),⟨by rw [List.length_set];exact S.len,by rw [ep];exact S.nd,fun b mb=>?_,fun j y ej=>?_,⟨S.cell.len,fun n b ns h1 h2=>?_⟩⟩⟩
 ·rw [aV (fun z=>n (List.mem_append_right _ (by rw [z];exact m)))];exact hb
 ·by_cases z:b=a
  ·subst z;rw [aP];exact Option.some_ne_none _
  ·rw [aV z];exact hb
 ·rw [aV (fun z=>no.1 (by rw [←z];exact mb))];exact S.dom b mb
 ·rw [ep,I9 mp];rcases get_set ej with ⟨rfl,ex,hl⟩ | ⟨n,ej⟩
  ·cases ex;exact ⟨_,e2,a,rfl,r⟩
  ·obtain ⟨v,e3,r3⟩:=S.slot j y ej;refine ⟨v,e3,r3.same (bu.refl _) fun d2 b ex ev u hu=>?_⟩;subst ex ev;rw [aV]
   ·exact hu
   ·intro z;subst z;exact n (sW S.j5.2.2.1 ej e3 e1 e2)
 ·rw [aV (fun z=>no.2 (by rw [←z];exact List.mem_of_getElem? h1))];exact S.cell.at_ n b ns h1 h2
end
def jO:Option (Option Vl)→Bool
 | some (some (.ow (.list _)))=>true
 | _=>false
def lF (i:Nat) (f:FE):FS:=fun env C=>if jO env[i]? then match f env C with
  | some (r,e1,C1)=>match still r,e1[i]? with
   | .im d,some (some (.ow (.list ds)))=>if ds.length < LIM then some (.nx,e1.set i (some (.ow (.list (ds++[d])))),C1) else none
   | _,_=>none
  | none=>none
 else none
theorem Fp {x:Option (Option Vl)} (h:jO x=true):∃ds,x=some (some (.ow (.list ds))):=by
 unfold jO at h;split at h
 ·exact ⟨_,rfl⟩
 ·cases h
section
variable {X:Cx} {pos:Pos}
theorem oZ {i:Nat} {o e:Expr} {f:FE} {apos cpos:Pos} (ho:PE X o (wF i)) (he:PE X e (tE X.K f))
  (hs0:swapsWith (.Call (.Attribute o "append" apos) [e] [] cpos) none pos.line X.env=pure false:=by rfl)
  (hbase:attributeBase o "append" X.env (eval o X.env)=eval o X.env:=by rfl)
  (hfew:((backTo cpos (starEach [e] X.env)).all (fun x=>!x.1)&&(backToKw cpos (keywordEach [] X.env)).all (fun x=>x.1.isSome)
   &&decide (([e]:List Expr).length + ([]:List Keyword).length + (if ([]:List Keyword).isEmpty then 0 else 1) < 30))=true:=by rfl)
  (hline:(apos.endLine==cpos.line)=true:=by rfl) (hs:starEach [e] X.env=(false,eval e X.env)::starEach [] X.env:=by rfl) (hplain:(backTo cpos (starEach [] X.env)).any (·.1)=false:=by rfl):
  PS X (.Expr (.Call (.Attribute o "append" apos) [e] [] cpos) pos) (tS X.K (lF i f)):=
 (JR (O8 PySem.F.plainAttrs_list PySem.F.slot_list_append PySem.F.type_list_append (VB.r zR) ho (dZ he jH hs) hbase hfew hline hs hplain) hs0).weak fun D σ H aZ=>by
  obtain ⟨Z,Θ,env,C,fl,env',C',S,hf,q⟩:=aZ;unfold lF at hf;split at hf
  ·rename_i h0;obtain ⟨ds0,h0⟩:=Fp h0;obtain ⟨v0,V5,a,rfl,vs0,ha0,r0⟩:=S.slot i _ h0;split at hf
   ·rename_i r e1 C1 h1;split at hf
    ·rename_i d ds hd hi;split at hf
     ·rename_i hl;cases hf;refine ⟨_,V5,.inl ⟨rfl,vs0,di.of ha0⟩,Z,Θ,env,C,r,e1,C',S,h1,fun v H1 k f R=>?_⟩;obtain ⟨S1,r1⟩:=R.qH hd;obtain ⟨v1,ev1,a1,ea1,vs,ha1,r2⟩:=S1.slot i _ hi;subst ea1;rw [V5] at ev1;cases ev1;refine ⟨a,vs,v,rfl,rfl,ha1,by rw [bW r2,sizeLine_eq];unfold LIM at hl;omega,?_⟩;have w:lV X.K Z Θ e1 σ H1 Θ (e1.set i (some (.ow (.list (ds++[d]))))) C' σ (upd H1 a (.lst (vs++[v]))):=S1.write hi V5 ⟨_,aP,mY r2 ⟨v,[],rfl,r1,rfl⟩⟩;exact q Θ σ _ ((lV.Qy k f S1).trans w)
     ·cases hf
    ·cases hf
   ·cases hf
  ·cases hf
def uM {κ:Type} [DecidableEq κ] (f:PyData→Option κ) (k:κ) (dk d:PyData) (kvs:List (PyData×PyData)):List (PyData×PyData):=
 if (kvs.any fun p=>decide (f p.1=some k))=true then kvs.map (fun p=>if f p.1=some k then (p.1,d) else p) else kvs++[(dk,d)]
def putD (kvs:List (PyData×PyData)) (dk d:PyData):Option (List (PyData×PyData)):=match c7 dk with
 | some k=>if (cM c7 kvs).isSome then some (uM c7 k dk d kvs) else none
 | none=>match nJ dk with
  | some ks=>if (cM nJ kvs).isSome then some (uM nJ ks dk d kvs) else none
  | none=>none
theorem Kw {κ:Type} [DecidableEq κ] {f:PyData→Option κ} {k:κ} {E:Hp}:∀{kvs:List (PyData×PyData)} {ks:List κ} {vs:List V},cM f kvs=some ks→um E kvs vs→(kvs.any fun p=>decide (f p.1=some k))=((ks.zip vs).any fun kv=>decide (kv.1=k))
 | [],ks,vs,h,r=>by
  cases h;cases (show vs=[] from r);rfl
 | (p,d)::kvs,ks,vs,h,r=>by
  unfold cM at h;split at h
  ·rename_i k' t h1 h2;cases h;obtain ⟨v,w,rfl,q,s⟩:=r;show (decide (f p=some k) || _)=(decide (k'=k) || _)
   rw [Kw h2 s,h1];congr 1;rw [Bool.eq_iff_iff,decide_eq_true_iff,decide_eq_true_iff];exact ⟨fun e=>Option.some.inj e,fun e=>by rw [e]⟩
  ·cases h
theorem Ky {κ:Type} [DecidableEq κ] {f:PyData→Option κ} {k:κ} {E:Hp} {d:PyData} {v:V} (hv:RZ E d v):∀{kvs:List (PyData×PyData)} {ks:List κ} {vs:List V},cM f kvs=some ks→um E kvs vs→
  ∃vs',cM f (kvs.map fun p=>if f p.1=some k then (p.1,d) else p)=some ks∧um E (kvs.map fun p=>if f p.1=some k then (p.1,d) else p) vs'∧ks.zip vs'=(ks.zip vs).map fun kv=>if kv.1=k then (kv.1,v) else kv
 | [],ks,vs,h,r=>by
  cases h;exact ⟨[],rfl,rfl,rfl⟩
 | (p,e)::kvs,ks,vs,h,r=>by
  unfold cM at h;split at h
  ·rename_i k' t h1 h2;cases h;obtain ⟨u,w,rfl,q,s⟩:=r;obtain ⟨vs',g1,g2,g3⟩:=Ky (k:=k) hv h2 s;have h1':f p=some k':=h1;by_cases ek:k'=k
   ·subst ek;refine ⟨v::vs',?_,?_,?_⟩
    ·rw [List.map_cons];show cM f ((if f p=some k' then (p,d) else (p,e))::_)=_;rw [if_pos h1'];unfold cM;rw [g1];simp only [h1']
    ·rw [List.map_cons];show um E ((if f p=some k' then (p,d) else (p,e))::_) _;rw [if_pos h1'];exact ⟨v,vs',rfl,hv,g2⟩
    ·show (k',v)::t.zip vs'=(if k'=k' then (k',v) else (k',u))::_;rw [if_pos rfl,g3];rfl
   ·have ne:¬f p=some k:=fun z=>ek (Option.some.inj (h1'.symm.trans z))
    refine ⟨u::vs',?_,?_,?_⟩
    ·rw [List.map_cons];show cM f ((if f p=some k then (p,d) else (p,e))::_)=_;rw [if_neg ne];unfold cM;rw [g1];simp only [h1']
    ·rw [List.map_cons];show um E ((if f p=some k then (p,d) else (p,e))::_) _;rw [if_neg ne];exact ⟨u,vs',rfl,q,g2⟩
    ·show (k',u)::t.zip vs'=(if k'=k then (k',v) else (k',u))::_;rw [if_neg ek,g3];rfl
  ·cases h
theorem Fq {κ:Type} {f:PyData→Option κ} {k:κ} {E:Hp} {dk d:PyData} {v:V} (hk:f dk=some k) (hv:RZ E d v):∀{kvs:List (PyData×PyData)} {ks:List κ} {vs:List V},cM f kvs=some ks→um E kvs vs→
  cM f (kvs++[(dk,d)])=some (ks++[k])∧um E (kvs++[(dk,d)]) (vs++[v])∧(ks++[k]).zip (vs++[v])=ks.zip vs++[(k,v)]
 | [],ks,vs,h,r=>by
  cases h;cases (show vs=[] from r);refine ⟨?_,⟨v,[],rfl,hv,rfl⟩,rfl⟩;show cM f [(dk,d)]=_;unfold cM cM;simp only [hk];rfl
 | (p,e)::kvs,ks,vs,h,r=>by
  unfold cM at h;split at h
  ·rename_i k' t h1 h2;cases h;obtain ⟨u,w,rfl,q,s⟩:=r;obtain ⟨g1,g2,g3⟩:=Fq hk hv h2 s;refine ⟨?_,⟨u,_,rfl,q,g2⟩,?_⟩
   ·show cM f ((p,e)::(kvs++[(dk,d)]))=_;unfold cM;rw [g1];simp only [show f p=some k' from h1];rfl
   ·show (k',u)::(t++[k]).zip (w++[v])=_;rw [g3];rfl
  ·cases h
theorem vX {κ:Type} [DecidableEq κ] {f:PyData→Option κ} {k:κ} {E:Hp} {dk d:PyData} {v:V} (hk:f dk=some k) (hv:RZ E d v) {kvs:List (PyData×PyData)} {ks:List κ} {vs:List V} (h:cM f kvs=some ks) (r:um E kvs vs):
  ∃ks' vs',cM f (uM f k dk d kvs)=some ks'∧um E (uM f k dk d kvs) vs'∧ks'.zip vs'=putK (ks.zip vs) k v:=by
 unfold uM putK;rw [Kw h r];split
 ·obtain ⟨vs',g1,g2,g3⟩:=Ky (k:=k) hv h r;exact ⟨ks,vs',g1,g2,g3⟩
 ·obtain ⟨g1,g2,g3⟩:=Fq hk hv h r;exact ⟨_,_,g1,g2,g3⟩
theorem set_dict (hu:X.A.units + 1 < cLine):Ar X (fun o i v H Q=>∃a H',o=.ref a∧wO H a i v H'∧Q H'):=by
 intro pins s σ H o i v ov iv u Q I ro ri rv h;obtain ⟨a,H',rfl,g,q⟩:=h;cases ro;exact zV hu I g ri rv fun s' I'=>⟨H',I',q⟩
theorem Nb (hu:X.A.units + 1 < cLine):Ar X (fun o i v H Q=>∃(a b:Addr) (ks:List Key),o=.ref a∧H a=some (.dK [])∧i=.ref b∧H b=some (.tup (ks.map kV))∧Q (upd H a (.dT [(ks,v)]))):=by
 intro pins s σ H o i v ov iv u Q I ro ri rv h;obtain ⟨a,b,ks,rfl,ha,rfl,hb,q⟩:=h;cases ro;have hb':(upd H a (.dT [])) b=some (.tup (ks.map kV)):=by rw [aV (Oc hb ha (fun z=>nomatch z))];exact hb
 refine zV hu (I.reK ha) (wO.t (kvs:=[]) (k:=ks) (v:=v) aP hb' (by rw [sizeLine_eq];decide)) ri rv fun s' I'=>⟨_,I',?_⟩
 rw [JM];exact q
theorem Ar.or {t t':Td} (h:Ar X t) (h':Ar X t'):Ar X (fun o i v H Q=>t o i v H Q∨t' o i v H Q):=by
 intro pins s σ H o i v ov iv u Q I ro ri rv q;rcases q with q | q
 ·exact h pins s σ H o i v ov iv u Q I ro ri rv q
 ·exact h' pins s σ H o i v ov iv u Q I ro ri rv q
theorem Ut (hu:X.A.units + 1 < cLine):Ar X (fun o i v H Q=>(O5 o i v H Q∨∃a H',o=.ref a∧wO H a i v H'∧Q H')∨∃(a b:Addr) (ks:List Key),o=.ref a∧H a=some (.dK [])∧i=.ref b∧H b=some (.tup (ks.map kV))∧Q (upd H a (.dT [(ks,v)]))):=
 (set_list.or (set_dict hu)).or (Nb hu)
def tD:Option (Option Vl)→Bool
 | some (some _)=>true
 | _=>false
theorem Uu {x:Option (Option Vl)} (h:tD x=true):∃y,x=some (some y):=by
 unfold tD at h;split at h
 ·exact ⟨_,rfl⟩
 ·cases h
def putO (i:Nat) (d dk:PyData) (e:En) (C:Ce):Option Vl→Option (Fl×En×Ce)
 | some (.ow (.list ds))=>(intD dk).bind fun z=>(HN ds.length z).bind fun j=>some (.nx,e.set i (some (.ow (.list (ds.set j d)))),C)
 | some (.ow (.dict kvs))=>(putD kvs dk d).bind fun kvs'=>bif decide (kvs.length < LIM) then some (.nx,e.set i (some (.ow (.dict kvs'))),C) else none
 | some (.ce n)=>(intD dk).bind fun z=>(intD d).bind fun y=>(C[n]?).bind fun ns=>(HN ns.length z).bind fun j=>some (.nx,e,C.set n (ns.set j y))
 | _=>none
def zB (i:Nat) (fk:FB) (fe:FE):FS:=fun env C=>(fe env C).bind fun p=>(imO (still p.1)).bind fun d=>(fk p.2.1 p.2.2).bind fun k=>bif tD p.2.1[i]? then (k.2.1[i]?).bind (putO i d k.1 k.2.1 k.2.2) else none
def Ft (o i v:V) (H:Hp) (Q:Hp→Prop):Prop:=(O5 o i v H Q∨∃a H',o=.ref a∧wO H a i v H'∧Q H')∨∃(a b:Addr) (ks:List Key),o=.ref a∧H a=some (.dK [])∧i=.ref b∧H b=some (.tup (ks.map kV))∧Q (upd H a (.dT [(ks,v)]))
section
variable {K:PySem.W.Frag} {Z Θ:List Addr} {e2:En} {C2:Ce} {σ:St} {H2:Hp} {i:Nat} {d dk:PyData} {v w:V} {a:Addr} {R:Hp→Prop} {p:Fl×En×Ce}
theorem QD {ds:List PyData} (S2:Sm K Z Θ e2 C2 σ H2) (eu:σ[i]?=some (some (.ref a))) (hi:e2[i]?=some (some (.ow (.list ds)))) (rt:mq (er (aR Z Θ e2 σ) H2) H2 a (.list ds)) (r2:RZ (er (aR Z Θ e2 σ) H2) d v) (b2:dX Z Θ e2 σ H2 dk w) (hf:putO i d dk e2 C2 (some (.ow (.list ds)))=some p):
  p.1=.nx∧((∀Hx,lV K Z Θ e2 σ H2 Θ p.2.1 p.2.2 σ Hx→R Hx)→Ft (.ref a) w v H2 R):=by
 obtain ⟨z,hz,hf⟩:=cg hf;obtain ⟨j,hj,hf⟩:=cg hf;cases hf;have hz:=Bt hz;subst hz;obtain ⟨vs,ha,r3⟩:=rt;have b2:w=.int z:=b2;subst b2;exact ⟨rfl,fun q=>.inl (.inl ⟨a,vs,z,j,rfl,rfl,ha,by rw [bW r3];exact hj,q _ (S2.write hi eu ⟨_,aP,Kf r2 j r3⟩)⟩)⟩
theorem Kz {ks0:List Key} (kvs:List (PyData×PyData)):uM nJ ks0 dk d kvs≠[]:=fun z=>by
 unfold uM at z;split at z
 ·rename_i hz;cases kvs with
  | nil=>cases hz
  | cons _ _=>cases z
 ·cases kvs <;> cases z
theorem QF {kvs:List (PyData×PyData)} (S2:Sm K Z Θ e2 C2 σ H2) (eu:σ[i]?=some (some (.ref a))) (hi:e2[i]?=some (some (.ow (.dict kvs)))) (rt:mq (er (aR Z Θ e2 σ) H2) H2 a (.dict kvs)) (r2:RZ (er (aR Z Θ e2 σ) H2) d v) (b2:dX Z Θ e2 σ H2 dk w) (hf:putO i d dk e2 C2 (some (.ow (.dict kvs)))=some p):
  p.1=.nx∧((∀Hx,lV K Z Θ e2 σ H2 Θ p.2.1 p.2.2 σ Hx→R Hx)→Ft (.ref a) w v H2 R):=by
 refine hide fun GG gg=>?_
 obtain ⟨kvs',hp,hf⟩:=cg hf;cases hl:decide (kvs.length < LIM) with
 | false=>rw [hl] at hf;cases hf
 | true=>
 rw [hl] at hf;cases hf;have hl:=of_decide_eq_true hl;have hl':∀{κ:Type} (ks:List κ) (vs:List V),ks.length=kvs.length→(ks.zip vs).length < sizeLine:=fun ks vs e=>by
  rw [List.length_zip,sizeLine_eq,e];unfold LIM at hl;omega
 obtain ⟨vs,da,r3⟩:=rt;unfold putD at hp;split at hp
 ·rename_i k hk;split at hp
  case isFalse=>cases hp
  rename_i hs';cases hp;have wk:w=kV k:=by
   cases dk <;> first | (cases hk;exact b2) | cases hk
  rcases da with ⟨ks,g1,ha⟩ | ⟨ks,⟨ne,g2⟩,ha⟩
  ·obtain ⟨ks',vs',g3,g4,g5⟩:=vX hk r2 g1 r3;subst wk;exact gg ⟨rfl,fun q=>.inl (.inr ⟨a,_,rfl,wO.k (k:=k) (v:=v) ha (hl' ks vs (jb g1)),q _ (S2.write hi eu ⟨vs',.inl ⟨ks',g3,by rw [g5];exact aP⟩,g4⟩)⟩)⟩
  ·obtain ⟨abC,g1⟩:=Option.isSome_iff_exists.mp hs';exact absurd (jK g1 g2) ne
 ·split at hp
  case h_2=>cases hp
  rename_i ks0 hks;split at hp
  case isFalse=>cases hp
  rename_i hs';cases hp;obtain ⟨b,hb,rfl⟩:∃b,H2 b=some (.tup (ks0.map kV))∧w=.ref b:=by
   cases dk <;> first | cases hks | skip
   obtain ⟨b,ws,rfl,hb,rr⟩:=b2.tup;rw [jE hks rr] at hb;exact ⟨b,hb,rfl⟩
  rcases da with ⟨ks,g1,ha⟩ | ⟨ks,⟨ne,g1⟩,ha⟩
  ·obtain ⟨abC,g2⟩:=Option.isSome_iff_exists.mp hs';have e0:=jK g1 g2;subst e0;cases g1;have e0:vs=[]:=r3;subst e0;obtain ⟨ks',vs',g3,g4,g5⟩:=vX (kvs:=[]) (vs:=[]) (ks:=[]) hks r2 rfl rfl;exact gg ⟨rfl,fun q=>.inr ⟨a,b,ks0,rfl,ha,rfl,hb,q _ (S2.write hi eu ⟨vs',.inr ⟨ks',⟨Kz [],g3⟩,by rw [g5];exact aP⟩,g4⟩)⟩⟩
  ·obtain ⟨ks',vs',g3,g4,g5⟩:=vX hks r2 g1 r3;exact gg ⟨rfl,fun q=>.inl (.inr ⟨a,_,rfl,wO.t ha hb (hl' ks vs (jb g1)),q _ (S2.write hi eu ⟨vs',.inr ⟨ks',⟨Kz kvs,g3⟩,by rw [g5];exact aP⟩,g4⟩)⟩)⟩
theorem QG {n:Nat} (S2:Sm K Z Θ e2 C2 σ H2) (hth:Θ[n]?=some a) (r2:RZ (er (aR Z Θ e2 σ) H2) d v) (b2:dX Z Θ e2 σ H2 dk w) (hf:putO i d dk e2 C2 (some (.ce n))=some p):
  p.1=.nx∧((∀Hx,lV K Z Θ e2 σ H2 Θ p.2.1 p.2.2 σ Hx→R Hx)→Ft (.ref a) w v H2 R):=by
 refine hide fun GG gg=>?_
 obtain ⟨z,hz,hf⟩:=cg hf;obtain ⟨y,hy,hf⟩:=cg hf;obtain ⟨ns,hns,hf⟩:=cg hf;obtain ⟨j,hj,hf⟩:=cg hf;cases hf;have hz:=Bt hz;have hy:=Bt hy;subst hz hy;have b2:w=.int z:=b2;have ev:v=.int y:=r2;subst ev b2;have ha:=S2.cell.at_ n a ns hth hns;have am:a∈Θ:=List.mem_of_getElem? hth;refine gg ⟨rfl,fun q=>.inl (.inl ⟨a,_,z,j,rfl,rfl,ha,by rw [List.length_map];exact hj,q _ ?_⟩)⟩;have kc:bY Θ H2 (upd H2 a (.lst ((ns.map V.int).set j (.int y)))):=⟨fun b o hb nb=>by rw [aV (fun zz=>nb (by rw [zz];exact am))];exact hb,fun b hb=>by
  by_cases zz:b=a
  ·subst zz;rw [aP];exact Option.some_ne_none _
  ·rw [aV zz];exact hb⟩
 refine lV.Qy kc (Fz.refl _) (S2.go kc ⟨by rw [List.length_set];exact S2.cell.len,fun m b ms h5 h6=>?_⟩);rcases get_set h6 with ⟨rfl,e6,_⟩ | ⟨nm,h6⟩
 ·rw [hth] at h5;cases h5;cases e6;rw [aP,List.map_set]
 ·rw [aV]
  ·exact S2.cell.at_ m b ms h5 h6
  ·intro zz;subst zz;obtain ⟨l1,l1'⟩:=List.getElem?_eq_some_iff.mp h5;obtain ⟨l2,l2'⟩:=List.getElem?_eq_some_iff.mp hth;rcases Nat.lt_trichotomy m n with hlt | heq | hgt
   ·exact List.pairwise_iff_getElem.mp S2.j5.2.1 m n l1 l2 hlt (l1'.trans l2'.symm)
   ·exact nm heq
   ·exact List.pairwise_iff_getElem.mp S2.j5.2.1 n m l2 l1 hgt (l2'.trans l1'.symm)
theorem Uv {s:Option Vl} {u:V} (S2:Sm K Z Θ e2 C2 σ H2) (eu:σ[i]?=some (some u)) (hi:e2[i]?=some s) (r2:RZ (er (aR Z Θ e2 σ) H2) d v) (b2:dX Z Θ e2 σ H2 dk w) (hf:putO i d dk e2 C2 s=some p):
  p.1=.nx∧((∀Hx,lV K Z Θ e2 σ H2 Θ p.2.1 p.2.2 σ Hx→R Hx)→Ft u w v H2 R):=by
 cases s with
 | none=>cases hf
 | some s=>
 obtain ⟨u',eu',sl⟩:=S2.slot i _ hi;rw [eu] at eu';cases eu';cases s with
 | im _=>cases hf
 | sc _=>cases hf
 | ce n=>
  obtain ⟨a,rfl,hth⟩:=sl;exact QG S2 hth r2 b2 hf
 | ow x=>
  obtain ⟨a,rfl,rt⟩:=sl;cases x <;> first | exact QD S2 eu hi rt r2 b2 hf | exact QF S2 eu hi rt r2 b2 hf | cases hf
end
theorem Ca {i:Nat} {o k e:Expr} {fk:FB} {fe:FE} {p:Pos} (hu:X.A.units + 1 < cLine) (ho:PE X o (wF i)) (hk:PE X k (mL X.K fk)) (he:PE X e (tE X.K fe))
  (ha:∀v,assign (.Subscript o k p) X.env v=(do
   let ov ←holding [v] (eval o X.env)
   let iv ←holding [v,ov] (eval k X.env)
   standAt p
   holding [v,ov,iv] (setItem ov iv v)
   release [v,ov,iv] []):=by intro _;rfl)
  (hs:swapsWithSole [.Subscript o k p] e pos.line X.env=pure false:=by rfl) (hw:swappedStores [.Subscript o k p] e X.env=pure none:=by rfl) (h1:(assignEach [.Subscript o k p] X.env).map (·.2)=[assign (.Subscript o k p) X.env]:=by rfl):
  PS X (.Assign [.Subscript o k p] e pos) (tS X.K (zB i fk fe)):=(Hl he (Ww (t:=Ft) ho hk (Ut hu) ha) hs hw h1).weak fun D σ H aZ=>by
 obtain ⟨Z,Θ,env,C,fl,env',C',S,hf,q⟩:=aZ;obtain ⟨p,h1,hf⟩:=cg hf;obtain ⟨d,hd,hf⟩:=cg hf;obtain ⟨kp,h2,hf⟩:=cg hf;cases h3:tD p.2.1[i]? with
 | false=>rw [h3] at hf;cases hf
 | true=>
 rw [h3] at hf;obtain ⟨s,hi,hf⟩:=cg hf;obtain ⟨y3,h3⟩:=Uu h3;refine ⟨Z,Θ,env,C,p.1,p.2.1,p.2.2,S,h1,fun v H1 k1 f1 R1=>?_⟩;obtain ⟨S1,r1⟩:=R1.qH (xM hd);obtain ⟨u,eu,_⟩:=S1.slot i _ h3;refine ⟨u,eu,Z,Θ,p.2.1,p.2.2,kp.1,kp.2.1,kp.2.2,S1,h2,fun w H2 k2 f2 S2 b2=>?_⟩;obtain ⟨e0,go⟩:=Uv (R:=fun Hx=>D.nx σ Hx) S2 eu hi (r1.same (Ql S1 k2 f2)) b2 hf;have e0:fl=.nx:=e0;subst e0;exact go fun Hx st=>q Θ σ _ ((lV.Qy (k1.trans k2) (f1.trans f2) S2).trans st)
end
def intsOf:List PyData→Option (List Int)
 | []=>some []
 | .int i::r=>match intsOf r with
  | some t=>some (i::t)
  | none=>none
 | _=>none
theorem xW {E:Hp}:∀{ds:List PyData} {ns:List Int} {vs:List V},intsOf ds=some ns→gn E ds vs→vs=ns.map V.int
 | [],ns,vs,h,r=>by cases h;exact r
 | .int i::ds,ns,vs,h,r=>by
  unfold intsOf at h;split at h
  ·rename_i t ht;cases h;obtain ⟨u,w,rfl,q,s⟩:=r;rw [xW ht s];have:u=.int i:=q;rw [this];rfl
  ·cases h
 | .none::_,_,_,h,_=>by cases h
 | .bool _::_,_,_,h,_=>by cases h
 | .str _::_,_,_,h,_=>by cases h
 | .list _::_,_,_,h,_=>by cases h
 | .tuple _::_,_,_,h,_=>by cases h
 | .dict _::_,_,_,h,_=>by cases h
def QH (i:Nat) (f:FE):FS:=fun env C=>match f env C with
 | some (.ow (.list ds),e1,C1)=>match intsOf ds with
  | some ns=>some (.nx,e1.set i (some (.ce C1.length)),C1++[ns])
  | none=>none
 | _=>none
section
variable {X:Cx} {pos:Pos}
theorem QJ {K:PySem.W.Frag} {i:Nat} {f:FE}:∀D σ H,tS K (QH i f) D σ H→LC (tE K f) (u9 i) D σ H:=by
 rintro D σ H ⟨Z,Θ,env,C,fl,env',C',S,hf,q⟩;unfold QH at hf;split at hf
 ·rename_i ds e1 C1 h1;split at hf
  ·rename_i ns hns;cases hf;refine ⟨Z,Θ,env,C,_,e1,C1,S,h1,fun v H1 k f R=>?_⟩;obtain ⟨a,rfl,hn,S1,vs,ha,r⟩:=R;have ev:=xW hns r;subst ev;have j5:=S1.j5;have Z4:=List.nodup_cons.mp j5.1;have cl:=S1.cell.len;have c':gB (Θ++[a]) (C1++[ns]) H1:=by
    refine ⟨by rw [List.length_append,List.length_append,cl];rfl,fun m b ms h5 h6=>?_⟩;by_cases hm:m < Θ.length
    ·rw [List.getElem?_append_left hm] at h5;rw [List.getElem?_append_left (by rw [cl];exact hm)] at h6;exact S1.cell.at_ m b ms h5 h6
    ·rw [List.getElem?_append_right (by omega)] at h5;rw [List.getElem?_append_right (by omega)] at h6;rw [cl] at h6;cases hm0:m - Θ.length with
     | zero=>rw [hm0] at h5 h6;cases h5;cases h6;exact ha
     | succ j=>rw [hm0] at h5;simp at h5
   have o1:∀b∈bD (e1.set i (some (.ce C1.length))) (σ.set i (some (.ref a))),b∈bD e1 σ:=fun b m=>by
    rcases kI m with m | ⟨⟨_,z⟩,_⟩
    ·exact m
    ·cases z
   have S2:Sm K Z (Θ++[a]) e1 (C1++[ns]) σ H1:=by
    have mm:∀b,b∈aR Z (Θ++[a]) e1 σ ↔ b∈aR (a::Z) Θ e1 σ:=fun b=>by
     rw [bV,bV,List.mem_append,List.mem_singleton,List.mem_cons];constructor
     ·rintro (h | (h | h) | h)
      ·exact .inl (.inr h)
      ·exact .inr (.inl h)
      ·exact .inl (.inl h)
      ·exact .inr (.inr h)
     ·rintro ((h | h) | h | h)
      ·exact .inr (.inl (.inr h))
      ·exact .inl h
      ·exact .inr (.inl (.inl h))
      ·exact .inr (.inr h)
    refine ⟨S1.len,XF Z4.2 ?_ j5.2.2.1 (fun b m=>?_) fun b m=>?_,fun b m=>S1.dom b (List.mem_cons_of_mem _ m),fun j x e=>?_,c'⟩
    ·rw [List.nodup_append];exact ⟨j5.2.1,List.nodup_cons.mpr ⟨by simp,List.nodup_nil⟩,fun b m c m' e=>by
      rw [List.mem_singleton] at m';subst e m';exact j5.2.2.2 b List.mem_cons_self m⟩
    ·intro m';rcases List.mem_append.mp m' with m' | m'
     ·exact j5.2.2.2 b (List.mem_cons_of_mem _ m) m'
     ·rw [List.mem_singleton.mp m'] at m;exact Z4.1 m
    ·obtain ⟨p1,p2⟩:=S1.fZ m;refine ⟨fun z=>p1 (List.mem_cons_of_mem _ z),fun m'=>?_⟩;rcases List.mem_append.mp m' with m' | m'
     ·exact p2 m'
     ·rw [List.mem_singleton.mp m'] at p1;exact p1 List.mem_cons_self
    ·obtain ⟨v,e3,r3⟩:=S1.slot j x e;rw [jM mm];refine ⟨v,e3,?_⟩;cases x with
     | im d=>exact r3
     | ow d=>exact r3
     | ce n=>
      obtain ⟨b,e5,e6⟩:=r3;exact ⟨b,e5,by rw [List.getElem?_append_left (List.getElem?_eq_some_iff.mp e6).1];exact e6⟩
     | sc ns=>exact r3
   have S3:Sm K Z (Θ++[a]) (e1.set i (some (.ce C1.length))) (C1++[ns]) (σ.set i (some (.ref a))) H1:=
    S2.IV (fun _ z=>nomatch z) ⟨a,rfl,by rw [cl,List.getElem?_append_right (Nat.le_refl _),Nat.sub_self];rfl⟩
   exact q (Θ++[a]) _ H1 ⟨⟨[a],rfl,fun b m=>by rw [List.mem_singleton.mp m];exact hn⟩,jq k,fun b m=>.inl (f.own.subset (o1 b m)),S3⟩
  ·cases hf
 ·cases hf
theorem XJ {i:Nat} {x:Str} {e:Expr} {f:FE} {pos':Pos} (hN:X.N.Nodup) (hi:X.N[i]?=some x) (hx:Loc X.env.scope x) (he:PE X e (tE X.K f)) (hs:swapsWith e (some (.Name x pos')) pos.line X.env=pure false:=by rfl) (hf:X.fn x=true∨X.env.scope.names.lookup x=some .local:=by first | exact .inl rfl | exact .inr rfl | assumption):
  PS X (.Assign [.Name x pos'] e pos) (tS X.K (QH i f)):=(Om hN hi hx he hs hf).weak QJ
def Uw (i:Nat) (f:FB):FS:=fun env C=>match env[i]? with
 | some (some (.im (.int x)))=>match f env C with
  | some (.int y,_,C1)=>some (.nx,env.set i (some (.im (.int (x + y)))),C1)
  | _=>none
 | _=>none
theorem XM {i:Nat} {x:Str} {e:Expr} {f:FB} {pos':Pos} (hN:X.N.Nodup) (hi:X.N[i]?=some x) (hx:Loc X.env.scope x) (he:PE X e (mL X.K f)) (hf:X.fn x=true∨X.env.scope.names.lookup x=some .local:=by first | exact .inl rfl | exact .inr rfl | assumption):
  PS X (.AugAssign (.Name x pos') .Add e pos) (tS X.K (Uw i f)):=(Wy hN hi hx he Wz hf).weak fun D σ H aZ=>by
 obtain ⟨Z,Θ,env,C,fl,env',C',S,hf,q⟩:=aZ;unfold Uw at hf;split at hf
 ·rename_i z h0;split at hf
  ·rename_i y e1 C1 h1;cases hf;obtain ⟨v,ev,r⟩:=S.slot i _ h0;refine ⟨v,ev,Z,Θ,env,C,_,e1,C',S,h1,fun w H1 k f S1 b1=>⟨z,y,r,b1,?_⟩⟩;have S2:=S.go k S1.cell;refine q Θ _ H1 ⟨zA.refl _ _,jq k,fun a m=>?_,S2.IV (fun _ z=>nomatch z) (rfl:RZ _ (.int (z + y)) _)⟩;rcases kI m with m | ⟨⟨_,z⟩,_⟩
   ·exact .inl m
   ·cases z
  ·cases hf
 ·cases hf
end
def dw (c:FT) (body:FS):Nat→FS
 | 0=>fun _ _=>none
 | n + 1=>fun env C=>match c env C with
  | some (false,C1)=>some (.nx,env,C1)
  | some (true,C1)=>match body env C1 with
   | some (.nx,e2,C2)=>dw c body n e2 C2
   | some (.ct,e2,C2)=>dw c body n e2 C2
   | some (.bk,e2,C2)=>some (.nx,e2,C2)
   | some (.rt r,e2,C2)=>some (.rt r,e2,C2)
   | none=>none
  | none=>none
def Fv:Nat:=100000
def Ux (c:FT) (body:FS):FS:=dw c body Fv
theorem Ja {K:PySem.W.Frag} {c:FT} {body:FS} {n:Nat}:∀D σ H,tS K (dw c body n) D σ H→Oo (nM K c) (tS K body) D σ H:=by
 rintro D σ H ⟨Z,Θ,env,C,fl,env',C',S,hf,q⟩;refine ⟨fun m σ1 H1=>∃Θ1 e1 C1,lV K Z Θ env σ H Θ1 e1 C1 σ1 H1∧dw c body m e1 C1=some (fl,env',C'),⟨n,Θ,env,C,lV.same S,hf⟩,?_⟩;rintro m σ1 H1 ⟨Θ1,e1,C1,p,hf⟩;cases m with
 | zero=>cases hf
 | succ m=>
  unfold dw at hf;split at hf
  ·rename_i C2 h1;cases hf;exact ⟨Z,Θ1,env',C1,false,C',p.sm,h1,fun H2 k2 S2=>Ef (q Θ1 σ1 H2 (p.trans (lV.Qy k2 (Fz.refl _) S2)))⟩
  ·rename_i C2 h1;refine ⟨Z,Θ1,e1,C1,true,C2,p.sm,h1,fun H2 k2 S2=>Eg ⟨fun σ' H'=>∃Θ1 e1 C1,lV K Z Θ env σ H Θ1 e1 C1 σ' H'∧dw c body m e1 C1=some (fl,env',C'),fun σ' H' h=>⟨m,Nat.lt_succ_self m,h⟩,?_⟩⟩;have p2:=p.trans (lV.Qy k2 (Fz.refl _) S2);split at hf
   ·rename_i e3 C3 h2;exact ⟨Z,Θ1,e1,C2,.nx,e3,C3,S2,h2,fun Θ3 σ3 H3 p3=>⟨Θ3,e3,C3,p2.trans p3,hf⟩⟩
   ·rename_i e3 C3 h2;exact ⟨Z,Θ1,e1,C2,.ct,e3,C3,S2,h2,fun Θ3 σ3 H3 p3=>⟨Θ3,e3,C3,p2.trans p3,hf⟩⟩
   ·rename_i e3 C3 h2;cases hf;exact ⟨Z,Θ1,e1,C2,.bk,env',C',S2,h2,fun Θ3 σ3 H3 p3=>q Θ3 σ3 H3 (p2.trans p3)⟩
   ·rename_i r e3 C3 h2;cases hf;exact ⟨Z,Θ1,e1,C2,.rt r,env',C',S2,h2,fun Θ3 v H3 p3=>q Θ3 v H3 (p2.ret p3)⟩
   ·cases hf
  ·cases hf
theorem tG {X:Cx} {pos:Pos} {c:Expr} {body:List Stmt} {t:FT} {f:FS} (hp:PassesOwn (model X.prog X.w) X.A X.env X.xe) (hc:PT X c (nM X.K t)) (hb:vI X body (tS X.K f)):PS X (.While c body [] pos) (tS X.K (Ux t f)):=(Oq hp hc hb).weak Ja
abbrev FI:=En→Ce→Option (List PyData×En×Ce)
def Fw (P T:List Addr) (H:Hp) (J:It) (its:List PyData):Prop:=∀(i:Nat) (H2:Hp) (P2:List Addr),bu (er P H) (er P2 H2)→bu (er T H) (er T H2)→(∀a∈P2,H2 a≠none)→
 (∀d,its[i]?=some d→J.go i H2∧∀x H3,J.Vx i H2 x H3→bu H2 H3∧RZ (er P2 H3) d x)∧(i=its.length→J.stop i H2)
inductive tI (K:PySem.W.Frag) (b:Bool) (f:FI) (σ:St) (H:Hp) (R:It→Hp→Prop):Prop
 | mk (Z Θ:List Addr) (env:En) (C:Ce) (its:List PyData) (env':En) (C':Ce) (S:Sm K Z Θ env C σ H) (hf:f env C=some (its,env',C')) (q:∀J H',bY Θ H H'→Fz env env'→Sm K Z Θ env' C' σ H'→Fw (aR Z Θ env' σ) (if b then Θ else aR Z Θ env' σ) H' J its→R J H'):tI K b f σ H R
theorem PI.weak {X:Cx} {tg e:Expr} {t t':TI} (h:PI X tg e t) (w:∀σ H Q,t' σ H Q→t σ H Q):PI X tg e t':=fun pins s σ H Q I q=>h pins s σ H Q I (w σ H Q q)
theorem PI.or {X:Cx} {tg e:Expr} {t t':TI} (h:PI X tg e t) (h':PI X tg e t'):PI X tg e (fun σ H R=>t σ H R∨t' σ H R):=fun pins s σ H R I q=>q.elim (h pins s σ H R I) (h' pins s σ H R I)
section
variable {K:PySem.W.Frag} {P T:List Addr} {H:Hp} {a:Addr} {ds:List PyData} {vs:List V}
theorem KC (ha:er T H a=some (.lst vs)) (r:gn (er P H) ds vs):Fw P T H (Itl K a) ds:=fun i H2 P2 s1 s2 n=>by
 have h2:di K H2 a vs:=di.of (bZ (s2 _ _ ha));refine ⟨fun d hd=>?_,fun hi=>⟨vs,h2,by rw [bW r,hi];exact Nat.le_refl _⟩⟩;obtain ⟨v,ev,rv⟩:=oR r hd;refine ⟨⟨vs,v,h2,ev⟩,fun x H3 y=>?_⟩;obtain ⟨rfl,y⟩:=y;have:=y vs h2;rw [ev] at this;cases this;exact ⟨bu.refl _,rv.same s1⟩
theorem QK (ha:er P H a=some (.tup vs)) (r:gn (er P H) ds vs):Fw P T H (Itt K a) ds:=fun i H2 P2 s1 s2 n=>by
 have h2:jD K H2 a vs:=jD.of (bZ (s1 _ _ ha));refine ⟨fun d hd=>?_,fun hi=>⟨vs,h2,by rw [bW r,hi];exact Nat.le_refl _⟩⟩;obtain ⟨v,ev,rv⟩:=oR r hd;refine ⟨⟨vs,v,h2,ev⟩,fun x H3 y=>?_⟩;obtain ⟨rfl,y⟩:=y;have:=y vs h2;rw [ev] at this;cases this;exact ⟨bu.refl _,rv.same s1⟩
def chars (z:Str):List PyData:=z.cps.toList.map fun c=>.str ⟨#[c]⟩
theorem XN (z:Str):Fw P T H (Its z) (chars z):=fun i H2 P2 s1 s2 n=>by
 refine ⟨fun d hd=>?_,fun hi=>?_⟩
 ·unfold chars at hd;rw [List.getElem?_map] at hd;cases hc:z.cps.toList[i]? with
  | none=>rw [hc] at hd;cases hd
  | some c=>
   rw [hc] at hd;cases hd;have hc':z.cps[i]?=some c:=by rw [←Array.getElem?_toList];exact hc
   have hlt:i < z.cps.size:=by
    obtain ⟨h,_⟩:=Array.getElem?_eq_some_iff.mp hc';exact h
   refine ⟨hlt,fun x H3 y=>?_⟩;obtain ⟨rfl,c',ec,rfl⟩:=y;rw [hc'] at ec;cases ec;exact ⟨bu.refl _,rfl⟩
 ·show z.cps.size≤i;rw [hi];unfold chars;rw [List.length_map,Array.length_toList];exact Nat.le_refl _
def ju (lo:Int) (n:Nat):List PyData:=(List.range n).map fun (k:Nat)=>.int (lo + (k:Int))
theorem FJ (lo:Int) (n:Nat):Fw P T H (YZ lo n) (ju lo n):=fun i H2 P2 s1 s2 nn=>by
 refine ⟨fun d hd=>?_,fun hi=>?_⟩
 ·unfold ju at hd;rw [List.getElem?_map] at hd;by_cases hlt:i < n
  ·rw [List.getElem?_range hlt] at hd;cases hd;refine ⟨hlt,fun x H3 y=>?_⟩;obtain ⟨rfl,rfl⟩:=y;exact ⟨bu.refl _,rfl⟩
  ·rw [List.getElem?_eq_none (by rw [List.length_range];omega)] at hd;cases hd
 ·show n≤i;rw [hi];unfold ju;rw [List.length_map,List.length_range];exact Nat.le_refl _
end
def itD:PyData→Option (List PyData)
 | .list ds=>some ds
 | .tuple ds=>some ds
 | .str z=>some (chars z)
 | _=>none
def iB (f:FB):FI:=fun env C=>match f env C with
 | some (d,e1,C1)=>match itD d with
  | some its=>some (its,e1,C1)
  | none=>none
 | none=>none
def iV (f:FE):FI:=fun env C=>match f env C with
 | some (r,e1,C1)=>match still r with
  | .im d=>match itD d with
   | some its=>some (its,e1,C1)
   | none=>none
  | _=>none
 | none=>none
def vM (f:FB):FI:=fun env C=>match f env C with
 | some (.int j,_,C1)=>if -(2 ^ 62)≤j∧j < 2 ^ 62 then some (ju 0 j.toNat,env,C1) else none
 | _=>none
section
variable {X:Cx} {tg e:Expr}
theorem Nf {f:FE} (h:PE X e (tE X.K f)) (hgo:∀i u,letOwnedTupleGo tg i u=pure ():=by intro _ _;rfl):PI X tg e (tI X.K false (iV f)):=(((JS h).or (Ou h)).or (Xg h hgo)).weak fun σ H R aZ=>by
 obtain ⟨Z,Θ,env,C,its,env',C',S,hf,q⟩:=aZ;unfold iV at hf;split at hf
 ·rename_i r e1 C1 h1;split at hf
  ·rename_i d hd;split at hf
   ·rename_i ys hi;cases hf;cases d <;> first | cases hi | skip
    ·refine .inr ⟨Z,Θ,env,C,_,env',C',S,h1,fun v H1 k f R=>?_⟩;obtain ⟨S1,b⟩:=R.qH hd;exact ⟨_,b,q _ H1 k f S1 (XN _)⟩
    ·refine .inl (.inl ⟨Z,Θ,env,C,_,env',C',S,h1,fun v H1 k f R=>?_⟩);obtain ⟨S1,a,vs,rfl,ha,r⟩:=R.qH hd;exact ⟨a,rfl,⟨vs,di.of (bZ ha)⟩,q _ H1 k f S1 (KC ha r)⟩
    ·refine .inl (.inr ⟨Z,Θ,env,C,_,env',C',S,h1,fun v H1 k f R=>?_⟩);obtain ⟨S1,a,vs,rfl,ha,r⟩:=R.qH hd;exact ⟨a,rfl,⟨vs,jD.of (bZ ha)⟩,q _ H1 k f S1 (QK ha r)⟩
   ·cases hf
  ·cases hf
 ·cases hf
theorem gF {b:Bool} {a:Expr} {f:FB} {p pos:Pos} (hg:Gl X "range") (hm:X.mg "range"=none) (ha:PE X a (mL X.K f)) (hs:starEach [a] X.env=(false,eval a X.env)::starEach [] X.env:=by rfl) (hs':starEach [a] X.env=[(false,eval a X.env)]:=by rfl):PI X tg (.Call (.Name "range" p) [a] [] pos) (tI X.K b (vM f)):=
 (LQ hg hm (aQ ha bw hs) hs').weak fun σ H R aZ=>by
  obtain ⟨Z,Θ,env,C,its,env',C',S,hf,q⟩:=aZ;unfold vM at hf;split at hf
  ·rename_i j e1 C1 h1;split at hf
   ·rename_i hj;cases hf;refine ⟨Z,Θ,env,C,[.int j],e1,C',S,by unfold bCons bNil;rw [h1],fun vs H1 k f S1 b1=>?_⟩;cases b1 with
    | cons b1 b2=>
     cases b2;exact ⟨j,by rw [show _=V.int j from b1],hj.1,hj.2,q _ H1 k (Fz.refl _) (S.go k S1.cell) (FJ 0 j.toNat)⟩
   ·cases hf
  ·cases hf
end
def eO (g:FG) (body:FS):List PyData→FS
 | []=>fun env C=>some (.nx,env,C)
 | d::r=>fun env C=>match g d env with
  | some e1=>match body e1 C with
   | some (.nx,e2,C2)=>eO g body r e2 C2
   | some (.ct,e2,C2)=>eO g body r e2 C2
   | some (.bk,e2,C2)=>some (.nx,e2,C2)
   | some (.rt v,e2,C2)=>some (.rt v,e2,C2)
   | none=>none
  | none=>none
def gG (fi:FI) (g:FG) (body:FS):FS:=fun env C=>match fi env C with
 | some (its,e1,C1)=>eO g body its e1 C1
 | none=>none
theorem lV.er {K:PySem.W.Frag} {Z Θ Θ1:List Addr} {env e1:En} {C1:Ce} {σ σ1:St} {H H1:Hp} (p:lV K Z Θ env σ H Θ1 e1 C1 σ1 H1):bu (er (aR Z Θ env σ) H) (er (aR Z Θ1 e1 σ1) H1):=fun b o h=>by
 unfold L2.er at h ⊢;split at h
 ·cases h
 ·rename_i n;have hb:H b≠none:=by rw [h];exact Option.some_ne_none _
  rw [if_neg]
  ·refine p.kp.keep b o h fun m=>n ?_
   rcases List.mem_append.mp m with m | m
   ·exact bV.mpr (.inr (.inl m))
   ·exact bV.mpr (.inr (.inr m))
  ·intro m;rcases bV.mp m with m | m | m
   ·exact n (bV.mpr (.inl m))
   ·obtain ⟨Δ,e,hn⟩:=p.th.ex;rw [e] at m;rcases List.mem_append.mp m with m | m
    ·exact n (bV.mpr (.inr (.inl m)))
    ·exact hb (hn b m)
   ·rcases p.own b m with m | m
    ·exact n (bV.mpr (.inr (.inr m)))
    ·exact hb m
theorem Uy {P P2:List Addr} {H H2:Hp} (s:bu (er P H) (er P2 H2)):bu (er P H) (er P H2):=fun b o h=>by
 have h2:=bZ (s b o h);unfold er at h ⊢;split at h
 ·cases h
 ·rename_i n;rw [if_neg n];exact h2
theorem QL {K:PySem.W.Frag} {fi:FI} {g:TG} {fg:FG} {body:FS} (L:Yz K g fg):∀D σ H,tS K (gG fi fg body) D σ H→Y6 (tI K false fi) g (tS K body) D σ H:=by
 rintro D σ H ⟨Z,Θ,env,C,fl,env',C',S,hf,q⟩;unfold gG at hf;split at hf
 ·rename_i its e1 C1 h1;refine ⟨Z,Θ,env,C,its,e1,C1,S,h1,fun J H1 k1 f1 S1 it=>?_⟩;have p1:=lV.Qy k1 f1 S1;refine ⟨fun i m σ2 H2=>m=its.length - i∧i≤its.length∧∃Θ2 e2 C2,lV K Z Θ e1 σ H1 Θ2 e2 C2 σ2 H2∧eO fg body (its.drop i) e2 C2=some (fl,env',C'),⟨its.length,rfl,Nat.zero_le _,Θ,e1,C1,lV.same S1,hf⟩,?_⟩;rintro i m σ2 H2 ⟨rfl,hi,Θ2,e2,C2,p2,hl⟩;obtain ⟨it1,it2⟩:=it i H2 (aR Z Θ2 e2 σ2) p2.er (Uy p2.er) p2.sm.Iu;cases hd:its[i]? with
  | none=>
   have hi2:i=its.length:=by
    have:=List.getElem?_eq_none_iff.mp hd;omega
   rw [hi2,List.drop_length] at hl;cases hl;exact .inl ⟨it2 hi2,q Θ2 σ2 H2 (p1.trans p2)⟩
  | some d=>
   have hlt:i < its.length:=(List.getElem?_eq_some_iff.mp hd).1;have ed:its.drop i=d::its.drop (i + 1):=by
    rw [List.drop_eq_getElem_cons hlt];obtain ⟨_,e⟩:=List.getElem?_eq_some_iff.mp hd;rw [e]
   rw [ed] at hl;unfold eO at hl;obtain ⟨go,yl⟩:=it1 d hd;refine .inr ⟨go,fun σ' H'=>∃Θ2 e2 C2,lV K Z Θ e1 σ H1 Θ2 e2 C2 σ' H'∧eO fg body (its.drop (i + 1)) e2 C2=some (fl,env',C'),fun σ' H' h=>⟨its.length - (i + 1),by omega,rfl,hlt,h⟩,fun x H3 y=>?_⟩;obtain ⟨s3,r3⟩:=yl x H3 y;have S3:=p2.sm.xH s3;have p3:=p2.trans (lV.Qy (bY.of s3) (Fz.refl _) S3);split at hl
   ·rename_i e4 h4;refine L Z Θ2 e2 C2 σ2 H3 x d e4 S3 r3 h4 _ fun σ4 S4 o4=>?_
    have p4:lV K Z Θ e1 σ H1 Θ2 e4 C2 σ4 H3:=p3.trans ⟨zA.refl _ _,bY.refl _ _,fun a m=>.inl (o4 a m),S4⟩;split at hl
    ·rename_i e5 C5 h5;exact ⟨Z,Θ2,e4,C2,.nx,e5,C5,S4,h5,fun Θ5 σ5 H5 p5=>⟨Θ5,e5,C5,p4.trans p5,hl⟩⟩
    ·rename_i e5 C5 h5;exact ⟨Z,Θ2,e4,C2,.ct,e5,C5,S4,h5,fun Θ5 σ5 H5 p5=>⟨Θ5,e5,C5,p4.trans p5,hl⟩⟩
    ·rename_i e5 C5 h5;cases hl;exact ⟨Z,Θ2,e4,C2,.bk,env',C',S4,h5,fun Θ5 σ5 H5 p5=>q Θ5 σ5 H5 (p1.trans (p4.trans p5))⟩
    ·rename_i r e5 C5 h5;cases hl;exact ⟨Z,Θ2,e4,C2,.rt r,env',C',S4,h5,fun Θ5 v H5 p5=>q Θ5 v H5 (p1.ret (p4.ret p5))⟩
    ·cases hl
   ·cases hl
 ·cases hf
theorem jk {X:Cx} {pos:Pos} {tg iter:Expr} {body:List Stmt} {fi:FI} {g:TG} {fg:FG} {f:FS} (hp:PassesOwn (model X.prog X.w) X.A X.env X.xe) (hc:X.calm=true) (hi:PI X tg iter (tI X.K false fi)) (hg:PG X tg g) (L:Yz X.K g fg) (hb:vI X body (tS X.K f))
  (hs:∀x,foldedSetIterable iter X.env x=pure x:=by intro _;rfl):PS X (.For tg iter body [] pos) (tS X.K (gG fi fg f)):=(WD hp hc hi hg hb hs).weak (QL L)
def V6:ou→PyData→Option (List PyData)
 | .one,d=>some [d]
 | .many n,.tuple ds=>if ds.length=n then some ds else none
 | _,_=>none
def frB (js:List Nat) (env:En):En:=js.map fun j=>((env[j]?).join).map still
def mO (ds:List PyData):En:=ds.map fun d=>some (.im d)
def gH (T:ou) (ft:FT) (fe:FE) (fs:En):List PyData→Ce→Option (List PyData×Ce)
 | [],C=>some ([],C)
 | d::r,C=>match V6 T d with
  | some ts=>match ft (mO ts++fs) C with
   | some (false,C1)=>gH T ft fe fs r C1
   | some (true,C1)=>match fe (mO ts++fs) C1 with
    | some (x,_,C2)=>match still x with
     | .im y=>match gH T ft fe fs r C2 with
      | some (ys,C3)=>some (y::ys,C3)
      | none=>none
     | _=>none
    | none=>none
   | none=>none
  | none=>none
def qI (js:List Nat) (env:En):En:=env.mapIdx fun i x=>if i∈js then x.map still else x
def fLC (fi:FI) (T:ou) (ft:FT) (fe:FE) (js:List Nat):FE:=fun env C=>match fi env C with
 | some (its,e1,C1)=>match gH T ft fe (frB js e1) its C1 with
  | some (ys,C2)=>if ys.length≤LIM then some (.ow (.list ys),if fY ys then e1 else qI js e1,C2) else none
  | none=>none
 | none=>none
theorem V7:∀{a b:En},a.length=b.length→(∀(i:Nat) (x y:Option Vl),a[i]?=some x→b[i]?=some y→fz1 x y)→Fz a b
 | [],[],_,_=>trivial
 | x::r,y::t,hl,h=>⟨h 0 x y rfl rfl,V7 (by simpa using hl) fun i u v h1 h2=>h (i + 1) u v (by simpa using h1) (by simpa using h2)⟩
 | [],_::_,hl,_=>by cases hl
 | _::_,[],hl,_=>by cases hl
theorem uN (js:List Nat) (env:En):Fz env (qI js env):=V7 (by unfold qI;rw [List.length_mapIdx]) fun i x y h1 h2=>by
 unfold qI at h2;rw [List.getElem?_mapIdx,h1] at h2;have h2:(if i∈js then Option.map still x else x)=y:=Option.some.inj h2;rw [←h2];split
 ·cases x with
  | none=>exact .inl rfl
  | some x=>
   cases x with
   | ow d=>exact .inr ⟨d,rfl,rfl⟩
   | im d=>exact .inl rfl
   | ce n=>exact .inl rfl
   | sc ns=>exact .inl rfl
 ·exact .inl rfl
theorem QM {js:List Nat} {env:En} {k:Nat} {x:Vl} (h:(frB js env)[k]?=some (some x)):∃j:Nat,js[k]?=some j∧(qI js env)[j]?=some (some x)∧∀d,x≠.ow d:=by
 unfold frB at h;rw [List.getElem?_map] at h;cases hj:js[k]? with
 | none=>rw [hj] at h;cases h
 | some j=>
  rw [hj] at h;have h':((env[j]?).join).map still=some x:=Option.some.inj h;refine ⟨j,rfl,?_,?_⟩
  ·unfold qI;rw [List.getElem?_mapIdx];cases hv:env[j]? with
   | none=>rw [hv] at h';cases h'
   | some y=>
    rw [hv] at h';show some (if j∈js then Option.map still y else y)=_;rw [if_pos (List.mem_of_getElem? hj)];exact congrArg some h'
  ·cases hv:(env[j]?).join with
   | none=>rw [hv] at h';cases h'
   | some y=>
    rw [hv] at h';have e:still y=x:=Option.some.inj h';rw [←e];intro d z;cases y <;> cases z
theorem uO:∀{env:En} {σ:St},(∀(i:Nat) (d:PyData),env[i]?≠some (some (.ow d)))→bD env σ=[]
 | [],σ,_=>by cases σ <;> rfl
 | _::_,[],_=>rfl
 | x::e,v::s,h=>by
  rw [bD,uO (env:=e) (σ:=s) fun i d z=>h (i + 1) d (by simpa using z)];have h0:=h 0;simp at h0;unfold own1;split
  ·rename_i d a;exact absurd rfl (h0 d)
  ·rfl
section
variable {K:PySem.W.Frag} {Z Θ:List Addr} {env:En} {C C2:Ce} {σ:St} {H H2:Hp} {D:Addr}
abbrev mF (D:Addr) (Z:List Addr) (env:En) (σ:St):List Addr:=D::(Z++bD env σ)
theorem eU {js:List Nat} {a:Addr} {eB:En} {sB:St} (h:bD eB sB=[]):a∈aR (mF D Z env σ) Θ eB sB ↔ a=D∨a∈aR Z Θ env σ:=by
 rw [bV,bV,h,List.mem_cons,List.mem_append];constructor
 ·rintro ((h | h | h) | h | h)
  ·exact .inl h
  ·exact .inr (.inl h)
  ·exact .inr (.inr (.inr h))
  ·exact .inr (.inr (.inl h))
  ·nomatch h
 ·rintro (h | h | h | h)
  ·exact .inl (.inl h)
  ·exact .inl (.inr (.inl h))
  ·exact .inr (.inl h)
  ·exact .inl (.inr (.inr h))
theorem Cd {js:List Nat} {ts:List PyData}:∀(i:Nat) (d:PyData),(mO ts++frB js env)[i]?≠some (some (.ow d)):=fun i d z=>by
 by_cases hi:i < (mO ts).length
 ·rw [List.getElem?_append_left hi] at z;unfold mO at z;rw [List.getElem?_map] at z;cases h:ts[i]? with
  | none=>rw [h] at z;cases z
  | some t=>rw [h] at z;cases z
 ·rw [List.getElem?_append_right (by omega)] at z;obtain ⟨j,_,_,h⟩:=QM z;exact h d rfl
theorem Sm.blk {js:List Nat} {ts:List PyData} {vs:List V} (S:Sm K Z Θ (qI js env) C σ H) (hD:H D=Option.none) (k:bY Θ H H2) (nt:NT (H2 D)) (c:gB Θ C2 H2) (r:gn (er (aR (mF D Z (qI js env) σ) Θ [] []) H2) ts vs):
  Sm K (mF D Z (qI js env) σ) Θ (mO ts++frB js env) C2 (vs.map some++frees js σ) H2:=by
 have no:=uO (env:=mO ts++frB js env) (σ:=vs.map some++frees js σ) Cd;have j5:=S.j5;have lv:=bW r;have lis:(mO ts).length=ts.length:=by unfold mO;rw [List.length_map]
 have ee:er (aR (mF D Z (qI js env) σ) Θ (mO ts++frB js env) (vs.map some++frees js σ)) H2=er (aR (mF D Z (qI js env) σ) Θ [] []) H2:=jM fun a=>by rw [eU (js:=js) no,eU (js:=js) rfl]
 have sm:bu (er (aR Z Θ (qI js env) σ) H) (er (aR (mF D Z (qI js env) σ) Θ [] []) H2):=gA k S.Oa fun b m=>by
  rcases (eU (js:=js) rfl).mp m with rfl | m
  ·exact .inr hD
  ·exact .inl m
 refine ⟨?_,?_,fun b m=>?_,fun i x e=>?_,c⟩
 ·rw [List.length_append,List.length_append,List.length_map,lv,lis];unfold frees frB;rw [List.length_map,List.length_map]
 ·show (mF D Z (qI js env) σ++(Θ++bD (mO ts++frB js env) (vs.map some++frees js σ))).Nodup;rw [no];refine XF (List.nodup_cons.mpr ⟨fun m=>?_,?_⟩) j5.2.1 List.nodup_nil (fun b m m'=>?_) (fun _ m=>nomatch m)
  ·rcases List.mem_append.mp m with m | m
   ·exact (S.dom D m).ne hD
   ·exact S.Iu D (bV.mpr (.inr (.inr m))) hD
  ·rw [List.nodup_append];exact ⟨j5.1,j5.2.2.1,fun b m c' m' e=>by subst e;exact (S.fZ m').1 m⟩
  ·rcases List.mem_cons.mp m with rfl | m
   ·exact S.Iu b (bV.mpr (.inr (.inl m'))) hD
   ·rcases List.mem_append.mp m with m | m
    ·exact j5.2.2.2 b m m'
    ·exact (S.fZ m).2 m'
 ·rcases List.mem_cons.mp m with rfl | m
  ·exact nt
  ·have:NT (H b)∧b∉Θ:=by
    rcases List.mem_append.mp m with m | m
    ·exact ⟨S.dom b m,j5.2.2.2 b m⟩
    ·exact ⟨S.pnt b (bV.mpr (.inr (.inr m))),(S.fZ m).2⟩
   obtain ⟨⟨u,e,n⟩,nb⟩:=this;exact ⟨u,k.keep _ _ e nb,n⟩
 ·rw [ee];by_cases hi:i < ts.length
  ·rw [List.getElem?_append_left (by rw [lis];exact hi)] at e;unfold mO at e;rw [List.getElem?_map] at e;cases ht:ts[i]? with
   | none=>rw [ht] at e;cases e
   | some t=>
    rw [ht] at e;cases e;obtain ⟨v,ev,rv⟩:=oR r ht;exact ⟨v,by rw [List.getElem?_append_left (by rw [List.length_map,lv];exact hi),List.getElem?_map,ev];rfl,rv⟩
  ·rw [List.getElem?_append_right (by rw [lis];omega),lis] at e;obtain ⟨j,hj,hx,nx⟩:=QM e;obtain ⟨v,ev,rv⟩:=S.slot j x hx;refine ⟨v,?_,rv.same sm fun d _ z=>absurd z (nx d)⟩;rw [List.getElem?_append_right (by rw [List.length_map,lv];omega),List.length_map,lv];unfold frees;rw [List.getElem?_map,hj];show some ((σ[j]?).join)=_;rw [ev];rfl
end
def gZ:FT:=fun _ C=>some (true,C)
theorem kJ {X:Cx}:Hh X [] (nM X.K gZ):=fun pins s σ H Q I aZ=>by
 obtain ⟨Z,Θ,env,C,b,C',S,hf,q⟩:=aZ;cases hf;exact TV pins s σ H Q I (q H (bY.refl _ _) S)
theorem Cg {X:Cx} {c:Expr} {f:FT} (h:PT X c (nM X.K f)):Hh X [c] (nM X.K f):=TX h
theorem Z6 {K:PySem.W.Frag} {T:ou} {E H:Hp} {d:PyData} {x:V} {ts:List PyData} (h:V6 T d=some ts) (r:RZ E d x) (s:bu E H):∃vs,VH K T x H vs∧gn E ts vs:=by
 cases T with
 | one=>cases h;exact ⟨[x],rfl,x,[],rfl,r,rfl⟩
 | many n=>
  cases d <;> first | cases h | skip
  rename_i ds;have h:(if ds.length=n then some ds else none)=some ts:=h;split at h
  ·rename_i hl;cases h;obtain ⟨a,vs,rfl,ha,r⟩:=r;exact ⟨vs,⟨a,rfl,jD.of (s _ _ ha),(bW r).trans hl⟩,r⟩
  ·cases h
def qJ {α:Type} (T:ou) (ft:FT) (st:En→α→Ce→Option (α×Ce)) (fs:En):List PyData→α→Ce→Option (α×Ce)
 | [],a,C=>some (a,C)
 | d::r,a,C=>(V6 T d).bind fun ts=>(ft (mO ts++fs) C).bind fun p=>bif p.1 then (st (mO ts++fs) a p.2).bind fun q=>qJ T ft st fs r q.1 q.2 else qJ T ft st fs r a p.2
inductive Z7 {α:Type} (Θ:List Addr) (H1:Hp) (n:Nat) (Ob:α→Hp→Prop) (run:Nat→α→Ce→Prop) (i m:Nat) (H2:Hp):Prop
 | mk (a:α) (Ci:Ce) (hm:m=n - i) (hi:i≤n) (ki:bY Θ H1 H2) (ci:gB Θ Ci H2) (ob:Ob a H2) (hc:run i a Ci):Z7 Θ H1 n Ob run i m H2
section
variable {K:PySem.W.Frag} {α:Type} {T:ou} {ft:FT} {st:En→α→Ce→Option (α×Ce)} {js:List Nat} {Z Θ:List Addr} {e1:En} {C1 C':Ce} {σ:St} {H1:Hp} {J:It} {its:List PyData} {D:Addr} {o0:HO} {a0 aE:α}
theorem Jb {Hx Hy:Hp} {u:HO} (hD:H1 D=Option.none) (kk:bY Θ H1 Hx):bY Θ H1 (upd Hx D u):=by
 refine ⟨fun a o ha na=>?_,fun a ha=>?_⟩
 ·rw [aV (cJ ha hD)];exact kk.keep _ _ ha na
 ·by_cases z:a=D
  ·subst z;rw [aP];exact Option.some_ne_none _
  ·rw [aV z];exact kk.dom a ha
theorem tH {Hx:Hp} {u:HO} (hD:D∉Θ) (c:gB Θ C1 Hx):gB Θ C1 (upd Hx D u):=by
 refine ⟨c.len,fun n b ns e2 e3=>?_⟩;rw [aV]
 ·exact c.at_ n b ns e2 e3
 ·intro z;subst z;exact hD (List.mem_of_getElem? e2)
theorem xX {em:TM} {Ob:α→Hp→Prop} {done:Hp→Prop} (S1:Sm K Z Θ e1 C1 σ H1) (it:Fw (aR Z Θ e1 σ) Θ H1 J its) (hD:H1 D=Option.none) (ob0:Ob a0 (upd H1 D o0)) (YB:∀a Hx Hy,bY Θ Hx Hy→Ob a Hx→Ob a Hy) (obn:∀a Hx,Ob a Hx→NT (Hx D))
  (hem:∀(ts:List PyData) (a:α) (C2:Ce) (p:α×Ce) (vs:List V) (H4:Hp) (Q:Hp→Prop),st (mO ts++frB js e1) a C2=some p→Sm K (mF D Z (qI js e1) σ) Θ (mO ts++frB js e1) C2 (vs.map some++frees js σ) H4→bY Θ H1 H4→Ob a H4→(∀H6,bY Θ H1 H6→gB Θ p.2 H6→Ob p.1 H6→Q H6)→em (vs.map some++frees js σ) H4 Q)
  (hc:qJ T ft st (frB js e1) its a0 C1=some (aE,C')) (hq:∀H2,bY Θ H1 H2→gB Θ C' H2→Ob aE H2→done H2):Eh K T (nM K ft) em (frees js σ) J (upd H1 D o0) done:=by
 have vN:D∉Θ:=fun m=>(S1.cell.dom D m).ne hD
 have S1f:=S1.fz (uN js e1);refine ⟨Z7 Θ H1 its.length Ob (fun i a Ci=>qJ T ft st (frB js e1) (its.drop i) a Ci=some (aE,C')),⟨its.length,⟨a0,C1,rfl,Nat.zero_le _,bY.upd hD,tH vN S1.cell,ob0,hc⟩⟩,fun i m H2 hh=>?_⟩;cases hh with
 | mk a Ci hm hi ki ci ob hc=>
 subst hm;have nt:=obn a H2 ob;have smP:bu (er (aR Z Θ e1 σ) H1) (er (aR (mF D Z (qI js e1) σ) Θ [] []) H2):=gA ki S1.Oa fun b m=>by
  rcases (eU (js:=js) rfl).mp m with rfl | m
  ·exact .inr hD
  ·exact .inl ((uN js e1).sub b m)
 have abF:∀a∈aR (mF D Z (qI js e1) σ) Θ [] [],H2 a≠Option.none:=fun a m=>(S1f.blk hD ki nt ci (show gn _ [] [] from rfl)).Iu a ((eU (js:=js) (uO (env:=mO []++frB js e1) Cd)).mpr ((eU (js:=js) rfl).mp m))
 obtain ⟨it1,it2⟩:=it i H2 _ smP (Qm ki) abF;cases hd:its[i]? with
 | none=>
  have hi2:i=its.length:=Nat.le_antisymm hi (List.getElem?_eq_none_iff.mp hd);rw [hi2,List.drop_length] at hc;cases hc;exact .inl ⟨it2 hi2,hq H2 ki ci ob⟩
 | some d=>
  obtain ⟨hlt,ed⟩:=List.getElem?_eq_some_iff.mp hd;rw [List.drop_eq_getElem_cons hlt,ed] at hc;obtain ⟨go,yl⟩:=it1 d hd;refine .inr ⟨go,fun x H3 y=>?_⟩;obtain ⟨s3,r3⟩:=yl x H3 y;obtain ⟨ts,ht,hc⟩:=cg hc;obtain ⟨p,hft,hc⟩:=cg hc;obtain ⟨vs,tv,rvs⟩:=Z6 (K:=K) ht r3 (zW _ _);refine ⟨vs,tv,?_⟩;have k3:bY Θ H1 H3:=ki.trans (bY.of s3);have ob3:=YB a _ _ (bY.of s3) ob;have SB:=S1f.blk (js:=js) hD k3 (obn a H3 ob3) ⟨ci.len,fun n b ns e2 e3=>s3 _ _ (ci.at_ n b ns e2 e3)⟩ rvs;have lt:its.length - (i + 1) < its.length - i:=by omega
  refine ⟨_,Θ,_,Ci,p.1,p.2,SB,hft,fun H4 k4 S4=>?_⟩;cases hp:p.1 with
  | false=>
   rw [hp] at hc;exact Ef ⟨_,lt,⟨a,p.2,rfl,hlt,k3.trans k4,S4.cell,YB a _ _ k4 ob3,hc⟩⟩
  | true=>
   rw [hp] at hc;obtain ⟨q,hs,hc⟩:=cg hc;exact Eg (hem ts a p.2 q vs H4 _ hs S4 (k3.trans k4) (YB a _ _ k4 ob3) fun H6 k6 c6 o6=>⟨_,lt,⟨q.1,q.2,rfl,hlt,k6,c6,o6,hc⟩⟩)
end
def XQ (fe:FE):En→List PyData→Ce→Option (List PyData×Ce):=fun env acc C=>(fe env C).bind fun q=>(imO (still q.1)).bind fun y=>bif decide (acc.length < LIM) then some (acc++[y],q.2.2) else none
theorem Cj {T:ou} {ft:FT} {fe:FE} {fs:En} {C':Ce}:∀{its:List PyData} {ys acc:List PyData} {C:Ce},gH T ft fe fs its C=some (ys,C')→acc.length + ys.length≤LIM→qJ T ft (XQ fe) fs its acc C=some (acc++ys,C')
 | [],ys,acc,C,h,_=>by
  cases h;rw [List.append_nil];rfl
 | d::r,ys,acc,C,h,hl=>by
  unfold gH at h;unfold qJ;split at h
  case h_2=>cases h
  rename_i ts ht;rw [ht,Option.bind_some];split at h
  case h_3=>cases h
  ·rename_i C1 hf;rw [hf,Option.bind_some];exact Cj h hl
  ·rename_i C1 hf;rw [hf,Option.bind_some];split at h
   case h_2=>cases h
   rename_i x e2 C2 hx;split at h
   case h_2=>cases h
   rename_i y hy;split at h
   case h_2=>cases h
   rename_i zs C3 hz;cases h;rw [List.length_cons] at hl;show (XQ fe (mO ts++fs) acc C1).bind _=_;unfold XQ;rw [hx,Option.bind_some,hy,show imO (.im y)=some y from rfl,Option.bind_some,decide_eq_true (by omega),show acc++y::zs=(acc++[y])++zs by rw [List.append_assoc];rfl];exact Cj hz (by rw [List.length_append];show acc.length + 1 + _≤_;omega)
theorem KD {K:PySem.W.Frag} {fi:FI} {T:ou} {ft:FT} {fe:FE} {js:List Nat}:∀σ H Q,tE K (fLC fi T ft fe js) σ H Q→tLC K (tI K true fi) T (fun _=>nM K ft) (fun _=>tE K fe) js σ H Q:=by
 rintro σ H Q ⟨Z,Θ,env,C,res,env',C',S,hf,q⟩;unfold fLC at hf;split at hf
 case h_2=>cases hf
 rename_i its e1 C1 h1;split at hf
 case h_2=>cases hf
 rename_i ys C2 h2;split at hf
 case isFalse=>cases hf
 rename_i hl;cases hf;refine ⟨Z,Θ,env,C,its,e1,C1,S,h1,fun J H1 k1 f1 S1 it D hD b=>?_⟩;have vN:D∉Θ:=fun m=>(S1.cell.dom D m).ne hD
 have dPB:D∈aR (mF D Z (qI js e1) σ) Θ [] []:=(eU (js:=js) rfl).mpr (.inl rfl);refine xX (a0:=[]) (Ob:=fun acc Hx=>mq (er (aR (mF D Z (qI js e1) σ) Θ [] []) Hx) Hx D (.list acc)) S1 it hD ⟨[],aP,rfl⟩ (fun a Hx Hy kk r=>r.same (gA kk (fun a m=>bV.mpr (.inr (.inl m))) fun a m=>.inl m) fun o h=>kk.keep _ _ h vN)
  (fun a Hx r=>by obtain ⟨vs,e,_⟩:=r;exact ⟨_,e,fun _ z=>nomatch z⟩) ?_ (Cj (acc:=[]) h2 (by rw [List.length_nil,Nat.zero_add];exact hl)) fun H2 ki ci r=>?_
 ·intro ts acc C2 p vs H4 Q hs S4 k4 r4 hQ;obtain ⟨w,hfe,hs⟩:=cg hs;obtain ⟨yd,QS,hs⟩:=cg hs;have QS:=xM QS;cases hlt:decide (acc.length < LIM) with
  | false=>rw [hlt] at hs;cases hs
  | true=>
  rw [hlt] at hs;cases hs;refine ⟨_,Θ,_,C2,w.1,w.2.1,w.2.2,S4,hfe,fun y H5 k5 f5 R5=>?_⟩;obtain ⟨S5,r5⟩:=R5.qH QS;obtain ⟨Ck,hD5,rr⟩:=r4.same (gA k5 (fun a m=>bV.mpr (.inr (.inl m))) fun a m=>.inl m) fun o h=>k5.keep _ _ h vN
  have noB:bD w.2.1 (vs.map some++frees js σ)=[]:=by
   have:=(Fz.own (σ:=vs.map some++frees js σ) f5)
   rw [uO Cd] at this;exact List.sublist_nil.mp this
  have e5:er (aR (mF D Z (qI js e1) σ) Θ w.2.1 (vs.map some++frees js σ)) H5=er (aR (mF D Z (qI js e1) σ) Θ [] []) H5:=jM fun a=>by rw [eU (js:=js) noB,eU (js:=js) rfl]
  rw [e5] at r5;have lt:=of_decide_eq_true hlt;refine ⟨Ck,hD5,by rw [bW rr,sizeLine_eq];unfold LIM at lt;omega,hQ _ (Jb (Hy:=H5) hD (k4.trans k5)) (tH vN S5.cell) ⟨_,aP,?_⟩⟩;rw [I9 dPB];exact mY rr ⟨y,[],rfl,r5,rfl⟩
 ·obtain ⟨Ck,hDi,ri⟩:=r;refine q _ H2 (k1.trans ki) ?_ ?_
  ·split
   ·exact f1
   ·exact f1.trans (uN js e1)
  ·refine ⟨D,rfl,k1.none hD,?_⟩;split
   ·rename_i hn;have SD:=S1.xU hD ki ⟨_,hDi,fun _ z=>nomatch z⟩ ci;exact ⟨SD,Ck,hDi,ri.zx (fun a vs e=>uF SD (bZ e)) hn⟩
   ·refine ⟨(S1.fz (uN js e1)).xU hD ki ⟨_,hDi,fun _ z=>nomatch z⟩ ci,Ck,hDi,?_⟩;rw [jM (P':=aR (D::Z) Θ (qI js e1) σ) fun a=>by rw [eU (js:=js) rfl];show _ ↔ a∈D::aR Z Θ (qI js e1) σ;rw [List.mem_cons]] at ri;exact ri
section
variable {X:Cx} {NT NF:List Str} {js:List Nat} {elt tg iter:Expr} {ifs:List Expr} {T:ou} {fi:FI} {ft:FT} {fe:FE} {scope:Scope} {pos:Pos}
theorem vq (B:lZ X NT NF js scope) (tk:sG tg NT T) (hc:X.calm=true) (hi:PI X tg iter (tI X.K true fi))
  (hin:∀b,Hh (X.bk (NT++NF) scope b) ifs (nM X.K ft)∧PE (X.bk (NT++NF) scope b) elt (tE X.K fe))
  (hs:∀x,foldedSetIterable iter X.env x=pure x:=by intro _;rfl):PE X (.ListComp elt [⟨tg,iter,ifs,0⟩] scope pos) (tE X.K (fLC fi T ft fe js)):=(ZC B tk hc hi hin hs).weak KD
theorem QT {i:Nat} {y:Str} {pos' spos:Pos} (B:lZ X NT NF js scope) (tk:sG tg NT T) (hc:X.calm=true) (hi:PI X tg iter (tI X.K true fi))
  (hin:∀b,Hh (X.bk (NT++NF) scope b) ifs (nM X.K ft)∧PE (X.bk (NT++NF) scope b) elt (tE X.K fe))
  (hsw:swapsWith (.ListComp elt [⟨tg,iter,ifs,0⟩] scope pos) (some (.Name y pos')) spos.line X.env=pure true) (hN:X.N.Nodup) (hI:X.N[i]?=some y) (hy:X.env.scope.names.lookup y=some .local)
  (hs:∀x,foldedSetIterable iter X.env x=pure x:=by intro _;rfl):PS X (.Assign [.Name y pos'] (.ListComp elt [⟨tg,iter,ifs,0⟩] scope pos) spos) (tS X.K (fSet i (fLC fi T ft fe js))):=(Pq B tk hc hi hin hsw hN hI hy hs).weak (xV KD)
end
def z9 (n:Nat):Vl→Bool
 | .ce m=>decide (m < n)
 | _=>true
def fN (k n:Nat) (body:FS):FN:=fun xs C=>if xs.length=k then match body (xs.map some++List.replicate (n - xs.length) none) C with
  | some (.rt r,_,C')=>if z9 C.length r then some (r,C'.take C.length) else none
  | some (.nx,_,C')=>some (.im .none,C'.take C.length)
  | _=>none
 else none
section
variable {K:PySem.W.Frag} {Z Θ:List Addr} {C:Ce} {H:Hp} {xs:List Vl} {vs:List V}
theorem xY {E:Hp} (a:ji K E Θ xs vs):vs.length=xs.length:=by
 induction a with
 | nil=>rfl
 | cons _ _ ih=>rw [List.length_cons,List.length_cons,ih]
theorem Uz {E:Hp} (a:ji K E Θ xs vs):∀{i:Nat} {x:Vl},xs[i]?=some x→∃v,vs[i]?=some v∧sZ K E Θ x v:=by
 induction a with
 | nil=>intro i x e;simp at e
 | cons h _ ih=>
  intro i x e;cases i with
  | zero=>simp at e;subst e;exact ⟨_,rfl,h⟩
  | succ i=>
   obtain ⟨v,e2,h2⟩:=ih (i:=i) (by simpa using e);exact ⟨v,by simpa using e2,h2⟩
theorem Sm.start {n:Nat} (S:Sm K Z Θ [] C [] H) (a:ji K (er (aR Z Θ [] []) H) Θ xs vs):Sm K Z Θ (xs.map some++List.replicate n Option.none) C (vs.map some++List.replicate n Option.none) H∧bD (xs.map some++List.replicate n Option.none) (vs.map some++List.replicate n Option.none)=[]:=by
 have lv:=xY a;have at':∀{i:Nat} {x:Vl},(xs.map some++List.replicate n Option.none)[i]?=some (some x)→∃v,vs[i]?=some v∧sZ K (er (aR Z Θ [] []) H) Θ x v∧i < vs.length:=fun {i x} e=>by
  by_cases hi:i < xs.length
  ·rw [List.getElem?_append_left (by rw [List.length_map];exact hi),List.getElem?_map] at e;cases hx:xs[i]? with
   | none=>rw [hx] at e;cases e
   | some y=>
    rw [hx] at e;cases e;obtain ⟨v,e1,h⟩:=Uz a hx;exact ⟨v,e1,h,by rw [lv];exact hi⟩
  ·rw [List.getElem?_append_right (by rw [List.length_map];omega)] at e;have:=List.mem_of_getElem? e;exact nomatch (List.eq_of_mem_replicate this)
 have no:bD (xs.map some++List.replicate n Option.none) (vs.map some++List.replicate n Option.none)=[]:=uO fun i d e=>by
  obtain ⟨v,_,h,_⟩:=at' e;exact h
 refine ⟨⟨by simp [lv],?_,S.dom,fun i x e=>?_,S.cell⟩,no⟩
 ·show (Z++(Θ++bD _ _)).Nodup;rw [no];exact S.nd
 ·obtain ⟨v,e1,h,hl⟩:=at' e;refine ⟨v,by rw [List.getElem?_append_left (by rw [List.length_map];exact hl),List.getElem?_map,e1];rfl,?_⟩;have ee:er (aR Z Θ (xs.map some++List.replicate n Option.none) (vs.map some++List.replicate n Option.none)) H=er (aR Z Θ [] []) H:=by
   show er (Z++(Θ++bD _ _)) H=_;rw [no];rfl
  rw [ee];cases x with
  | im d=>exact h
  | ow d=>exact h.elim
  | ce m=>exact h
  | sc ns=>exact h
theorem Sm.cut {Δ:List Addr} (S:Sm K Z (Θ++Δ) [] C [] H):Sm K Z Θ [] (C.take Θ.length) [] H:=by
 have j5:=S.j5;have cl:=S.cell.len;rw [List.length_append] at cl;refine ⟨rfl,XF j5.1 (List.nodup_append.mp j5.2.1).1 List.nodup_nil (fun b m m'=>j5.2.2.2 b m (List.mem_append_left _ m')) (fun _ m=>nomatch m),S.dom,fun i x e=>by simp at e,⟨by rw [List.length_take];omega,fun n a ns e1 e2=>?_⟩⟩;have hn:n < Θ.length:=(List.getElem?_eq_some_iff.mp e1).1;rw [List.getElem?_take,if_pos hn] at e2;exact S.cell.at_ n a ns (by rw [List.getElem?_append_left hn];exact e1) e2
theorem Ks.cut {Θ':List Addr} {H':Hp} {C':Ce} {O:List Addr} {r:Vl} {v:V} (t:zA Θ Θ' H) (ok:z9 Θ.length r=true) (no:O=[]) (h:Ks K Z Θ' C' O H H' r v):Res K Z Θ [] (C'.take Θ.length) [] H H' r v:=by
 obtain ⟨Δ,rfl,hn⟩:=t.ex;have sm:∀{Y:List Addr},bu (er (aR Y (Θ++Δ) [] []) H') (er (aR Y Θ [] []) H'):=fun {Y}=>lB fun a m=>by
  rcases bV.mp m with m | m | m
  ·exact bV.mpr (.inl m)
  ·exact bV.mpr (.inr (.inl (List.mem_append_left _ m)))
  ·nomatch m
 cases r with
 | im d=>exact ⟨h.1.cut,h.2.same sm⟩
 | ow d=>
  obtain ⟨a,e,m,S,r⟩:=h;refine ⟨a,e,?_,S.cut,r.same sm fun _ h=>h⟩;rcases m with m | m
  ·rw [no] at m;nomatch m
  ·exact m
 | ce n=>
  obtain ⟨S,a,e,e2⟩:=h;refine ⟨S.cut,a,e,?_⟩;rw [List.getElem?_append_left (of_decide_eq_true ok)] at e2;exact e2
 | sc ns=>
  obtain ⟨S,a,e,q⟩:=h;exact ⟨S.cut,a,e,sm.seq q⟩
end
section
variable {P:Program} {w:World} {K:PySem.W.Frag} {mg:Str→Option Value} {base:Heap}
theorem eV {x qual:Str} {st:Stmt} {f:Addr} {fd:FuncData} {N ps:List Str} {k:Nat} {body:FS} {k1 k2:Nat} (F:pW K x qual st f fd) (S:bO N ps (aN st))
  (hb:∀(cdv:Value) (A:Around) (outer:List Env) (s:Shared) (H:Hp) (E:XK),iz k (A.deeper (envOfC qual (aN st) s.heap.objs.size f cdv))→vI (HF oh P w K mg base N qual (aN st) f cdv A outer s H E).S8 (kE st) (tS K body))
  (e1:k1=ps.length:=by rfl) (e2:k2=N.length:=by rfl):cZ P w K mg base oh (k + 1) f fd ps (spT K (fN k1 k2 body)):=by
 subst e1 e2;refine F.ok S (fun vs H Q E h=>?_) (fun cdv A outer s H vs Q E hr h=>⟨_,hb cdv A outer s H E hr,?_⟩)
 ·obtain ⟨Z,Θ,C,xs,r,C',S0,a,hf,_⟩:=h;unfold fN at hf;split at hf
  ·rename_i hl;rw [xY a,hl]
  ·cases hf
 ·obtain ⟨Z,Θ,C,xs,r,C',S0,a,hf,q⟩:=h;unfold fN at hf;split at hf
  case isFalse=>cases hf
  rename_i hl;have lv:=xY a;obtain ⟨S1,no⟩:=S0.start (n:=N.length - vs.length) a;rw [lv] at S1 no;have hs:start N vs=vs.map some++List.replicate (N.length - xs.length) none:=by unfold start;rw [lv]
  rw [hs];have cl:=S0.cell.len;split at hf
  ·rename_i r0 e' C1 hb';split at hf
   ·rename_i hok;cases hf;refine ⟨Z,Θ,_,C,.rt r,e',C1,S1,hb',fun Θ' v H' R=>?_⟩;have kp:=R.kp;rw [no,List.append_nil] at kp;rw [cl] at q hok;exact q v H' kp (R.ok.cut R.th hok no)
   ·cases hf
  ·rename_i e' C1 hb';cases hf;refine ⟨Z,Θ,_,C,.nx,e',C1,S1,hb',fun Θ' σ' H' R=>?_⟩;have kp:=R.kp;rw [no,List.append_nil] at kp;obtain ⟨Δ,e,hn⟩:=R.th.ex;have S2:=R.sm.none;rw [e] at S2;rw [cl] at q;exact q .non H' kp ⟨S2.cut,rfl⟩
  ·cases hf
theorem XR {f:FN} {C':Ce} {H:Hp} {a:Addr} {ns:List Int} {E:XK} (hS:di K H a (ns.map V.int)) (h:f [.sc ns] []=some (.im (.bool true),C')):spT K f [.ref a] H (fun v _=>v=.bl true) E:=by
 refine ⟨[],[],[],[.sc ns],_,C',⟨rfl,List.nodup_nil,(fun _ m=>nomatch m),fun i x e=>by simp at e,⟨rfl,fun n b ms e _=>by simp at e⟩⟩,.cons ⟨a,rfl,?_⟩ .nil,h,fun v H' _ R=>R.2⟩;show di K (er [] H) a _;rw [xu];exact hS
end
def vz (i:Nat):FE:=fun env C=>match env[i]? with
 | some (some (.sc ns))=>some (.im (.int ns.length),env,C)
 | _=>none
def QV (i:Nat) (f:FB):FE:=fun env C=>match env[i]? with
 | some (some (.sc ns))=>match f env C with
  | some (.int k,_,C1)=>match n6 ns k with
   | some z=>some (.im (.int z),env,C1)
   | none=>none
  | _=>none
 | _=>none
section
variable {X:Cx} {o k:Expr} {i:Nat} {p pos:Pos}
theorem KH (ho:PE X o (wF i)) (hg:Gl X "len") (hm:X.mg "len"=none) (hv:bootBuiltins "len"=some (.builtin "len"))
  (he:starEach [o] X.env=(false,eval o X.env)::starEach [] X.env:=by rfl) (hpl:(backTo pos (starEach [] X.env)).any (·.1)=false:=by rfl):PE X (.Call (.Name "len" p) [o] [] pos) (tE X.K (vz i)):=
 (rW sr hg hm hv (dZ ho jH he) (by decide) (by decide) he hpl).weak fun σ H Q aZ=>by
  obtain ⟨Z,Θ,env,C,r,env',C',S,hf,q⟩:=aZ;unfold vz at hf;split at hf
  ·rename_i ns h0;cases hf;obtain ⟨v,ev,a,rfl,sq⟩:=S.slot i _ h0;have:=q (.int ns.length) H (bY.refl _ _) (Fz.refl _) ⟨S,rfl⟩;exact ⟨_,ev,a,_,rfl,.inl ((zW _ _).seq sq),by rw [List.length_map];exact this⟩
  ·cases hf
theorem XS {f:FB} (ho:PE X o (wF i)) (hk:PE X k (mL X.K f)) (hs:vP k):PE X (.Subscript o k pos) (tE X.K (QV i f)):=(O4 Bc ho hk hs).weak fun σ H Q aZ=>by
 obtain ⟨Z,Θ,env,C,r,env',C',S,hf,q⟩:=aZ;unfold QV at hf;split at hf
 case h_2=>cases hf
 rename_i ns h0;split at hf
 case h_2=>cases hf
 rename_i z e1 C1 h1;split at hf
 case h_2=>cases hf
 rename_i y hy;cases hf;obtain ⟨v,ev,a,rfl,sq⟩:=S.slot i _ h0;refine ⟨_,ev,Z,Θ,env,C,_,e1,C',S,h1,fun w H1 k1 f1 S1 b1=>?_⟩;have S2:=S.go k1 S1.cell;obtain ⟨v2,ev2,a2,ea2,sq2⟩:=S2.slot i _ h0;rw [ev] at ev2;cases ev2;cases ea2;refine ⟨a,_,z,.int y,rfl,b1,(zW _ _).seq sq2,?_,q _ H1 k1 (Fz.refl _) ⟨S2,rfl⟩⟩;unfold n6 at hy ⊢;rw [List.length_map];cases hj:HN ns.length z with
 | none=>rw [hj] at hy;cases hy
 | some j=>
  rw [hj] at hy;show (ns.map V.int)[j]?=_;rw [List.getElem?_map,show ns[j]?=some y from hy];rfl
end
section
variable {K:PySem.W.Frag} {X:Cx}
theorem nQ {Z Θ:List Addr} {env:En} {σ:St} {H:Hp} {d:PyData} {vs:List V} (h:Kg Z Θ env σ H [d] vs):∃v,vs=[v]∧dX Z Θ env σ H d v:=by
 cases h with
 | cons a b=>cases b;exact ⟨_,rfl,a⟩
theorem V8 {Z Θ:List Addr} {env:En} {σ:St} {H:Hp} {d e:PyData} {vs:List V} (h:Kg Z Θ env σ H [d,e] vs):∃v w,vs=[v,w]∧dX Z Θ env σ H d v∧dX Z Θ env σ H e w:=by
 cases h with
 | cons a b=>
  cases b with
  | cons b c=>cases c;exact ⟨_,_,rfl,a,b⟩
def QW:PyData→Option Nat
 | .list ds=>some ds.length
 | .tuple ds=>some ds.length
 | .str z=>if z.length≤LIM then some z.length else none
 | .dict kvs=>if (cM c7 kvs).isSome then some kvs.length else none
 | _=>none
def gJ:List PyData→Option Vl
 | [d]=>(QW d).map fun n=>.im (.int n)
 | _=>none
def V9 (K:PySem.W.Frag):List V→Hp→VK→Prop:=fun xs H Q=>((∃p ys,xs=[.ref p]∧(di K H p ys∨jD K H p ys)∧Q (.int ys.length) H)∨∃z,xs=[.str z]∧z.length≤sizeLine∧Q (.int z.length) H)∨∃a kvs,xs=[V.ref a]∧H a=some (.dK kvs)∧Q (.int kvs.length) H
theorem cR:cY X (.builtin "len") (V9 X.K):=(sr.or Bg).or Mv
theorem iH:BR K (V9 K) gJ:=by
 intro Z Θ env C σ H xs ds res S b e Q q;unfold gJ at e;split at e
 case h_2=>cases e
 rename_i d;obtain ⟨v,rfl,bb⟩:=nQ b;cases hn:QW d with
 | none=>rw [hn] at e;cases e
 | some n=>
  rw [hn] at e;cases e;have fin:=q (.int n) H (bY.refl _ _) (bL S rfl rfl);cases d <;> first | cases hn | skip
  ·rename_i z;simp only [QW] at hn;split at hn
   ·rename_i hl;cases hn;cases bb.str;exact .inl (.inr ⟨z,rfl,fM hl,fin⟩)
   ·cases hn
  ·obtain ⟨a,vs,rfl,ha,r⟩:=bb.lst;exact .inl (.inl ⟨a,vs,rfl,.inl (di.of ha),by rw [bW r];exact fin⟩)
  ·obtain ⟨a,vs,rfl,ha,r⟩:=bb.tup;exact .inl (.inl ⟨a,vs,rfl,.inr (jD.of ha),by rw [bW r];exact fin⟩)
  ·rename_i kvs;simp only [QW] at hn;split at hn
   ·rename_i hs;cases hn;obtain ⟨a,vs,rfl,da,r⟩:=bb.dct;rcases da with ⟨ks,h1,ha⟩ | ⟨ks,⟨ne,h2⟩,ha⟩
    ·refine .inr ⟨a,_,rfl,ha,?_⟩;rw [List.length_zip,jb h1,sV r,Nat.min_self];exact fin
    ·obtain ⟨ks',h1⟩:=Option.isSome_iff_exists.mp hs;exact absurd (jK h1 h2) ne
   ·cases hn
def FP:List PyData→Option Vl
 | [.int i]=>some (.im (.int (if i < 0 then -i else i)))
 | _=>none
theorem QX:BR K (fun xs H Q=>∃i,xs=[.int i]∧Q (.int (if i < 0 then -i else i)) H) FP:=by
 intro Z Θ env C σ H xs ds res S b e Q q;unfold FP at e;split at e
 case h_2=>cases e
 cases e;obtain ⟨v,rfl,bb⟩:=nQ b;cases bb.int;exact ⟨_,rfl,q _ H (bY.refl _ _) (bL S rfl rfl)⟩
def qK:List PyData→Option Vl
 | [.int i]=>some (.im (.int i))
 | [.bool k]=>some (.im (.int (if k then 1 else 0)))
 | _=>none
theorem Cm:BR K (fun xs H Q=>(∃i,xs=[.int i]∧Q (.int i) H)∨∃k,xs=[.bl k]∧Q (.int (if k then 1 else 0)) H) qK:=by
 intro Z Θ env C σ H xs ds res S b e Q q;unfold qK at e;split at e
 case h_3=>cases e
 ·cases e;obtain ⟨v,rfl,bb⟩:=nQ b;cases bb.int;exact .inl ⟨_,rfl,q _ H (bY.refl _ _) (bL S rfl rfl)⟩
 ·cases e;obtain ⟨v,rfl,bb⟩:=nQ b;cases (show v=.bl _ from bb);exact .inr ⟨_,rfl,q _ H (bY.refl _ _) (bL S rfl rfl)⟩
def uP:List PyData→Option Vl
 | [.int i,.int j]=>some (.im (.int (if j > i then j else i)))
 | _=>none
def lG:List PyData→Option Vl
 | [.int i,.int j]=>some (.im (.int (if j < i then j else i)))
 | _=>none
theorem UG:BR K (fun xs H Q=>∃i j,xs=[.int i,.int j]∧Q (.int (if j > i then j else i)) H) uP:=by
 intro Z Θ env C σ H xs ds res S b e Q q;unfold uP at e;split at e
 case h_2=>cases e
 cases e;obtain ⟨v,w,rfl,b1,b2⟩:=V8 b;cases b1.int;cases b2.int;exact ⟨_,_,rfl,q _ H (bY.refl _ _) (bL S rfl rfl)⟩
theorem vY:BR K (fun xs H Q=>∃i j,xs=[.int i,.int j]∧Q (.int (if j < i then j else i)) H) lG:=by
 intro Z Θ env C σ H xs ds res S b e Q q;unfold lG at e;split at e
 case h_2=>cases e
 cases e;obtain ⟨v,w,rfl,b1,b2⟩:=V8 b;cases b1.int;cases b2.int;exact ⟨_,_,rfl,q _ H (bY.refl _ _) (bL S rfl rfl)⟩
def boolsOf:List PyData→Option (List Bool)
 | []=>some []
 | .bool b::r=>match boolsOf r with
  | some t=>some (b::t)
  | none=>none
 | _=>none
theorem Aa {E:Hp}:∀{ds:List PyData} {ns:List Bool} {vs:List V},boolsOf ds=some ns→gn E ds vs→vs=ns.map V.bl
 | [],ns,vs,h,r=>by cases h;exact r
 | .bool i::ds,ns,vs,h,r=>by
  unfold boolsOf at h;split at h
  ·rename_i t ht;cases h;obtain ⟨u,w,rfl,q,s⟩:=r;rw [Aa ht s];have:u=.bl i:=q;rw [this];rfl
  ·cases h
 | .none::_,_,_,h,_=>by cases h
 | .int _::_,_,_,h,_=>by cases h
 | .str _::_,_,_,h,_=>by cases h
 | .list _::_,_,_,h,_=>by cases h
 | .tuple _::_,_,_,h,_=>by cases h
 | .dict _::_,_,_,h,_=>by cases h
def FQ:List PyData→Option Vl
 | [.list ds]=>(boolsOf ds).map fun bs=>.im (.bool (bs.all id))
 | _=>none
theorem XX:BR K (fun xs H Q=>∃(p:Addr) (bs:List Bool),xs=[.ref p]∧di K H p (bs.map V.bl)∧Q (.bl (bs.all id)) H) FQ:=by
 intro Z Θ env C σ H xs ds res S b e Q q;unfold FQ at e;split at e
 case h_2=>cases e
 rename_i ds;cases hb:boolsOf ds with
 | none=>rw [hb] at e;cases e
 | some bs=>
  rw [hb] at e;cases e;obtain ⟨v,rfl,bb⟩:=nQ b;obtain ⟨a,vs,rfl,ha,r⟩:=bb.lst;rw [Aa hb r] at ha;exact ⟨a,bs,rfl,di.of ha,q _ H (bY.refl _ _) (bL S rfl rfl)⟩
def tK:List PyData→Option Vl
 | [.list ds]=>some (.im (.tuple ds))
 | [.tuple ds]=>some (.im (.tuple ds))
 | _=>none
theorem FW:BR K (fun xs H Q=>∃p ys,xs=[.ref p]∧((di K H p ys∧∀l,H l=none→Q (.ref l) (upd H l (.tup ys)))∨(jD K H p ys∧Q (.ref p) H))) tK:=by
 intro Z Θ env C σ H xs ds res S b e Q q;unfold tK at e;split at e
 case h_3=>cases e
 ·cases e;obtain ⟨v,rfl,bb⟩:=nQ b;obtain ⟨a,vs,rfl,ha,r⟩:=bb.lst;exact ⟨a,vs,rfl,.inl ⟨di.of ha,fun l hl=>q _ _ (bY.upd hl) (vV S r hl)⟩⟩
 ·cases e;obtain ⟨v,rfl,bb⟩:=nQ b;obtain ⟨a,vs,rfl,ha,r⟩:=bb.tup;exact ⟨a,vs,rfl,.inr ⟨jD.of ha,q _ H (bY.refl _ _) ⟨S,bb⟩⟩⟩
end
def Jc (n:String):PyData→Option Bool
 | .none=>some false
 | .bool _=>some (n=="bool" || n=="int")
 | .int _=>some (n=="int")
 | .str _=>some (n=="str")
 | .list _=>some (n=="list")
 | .tuple _=>some (n=="tuple")
 | .dict _=>none
def QZ (n:String):Bool:=n=="bool" || n=="int" || n=="str" || n=="list" || n=="tuple"
theorem Jd {K:PySem.W.Frag} {n:String} {d:PyData} {b:Bool} (hn:QZ n=true) (e:Jc n d=some b):PySem.W.kitOne K (ZM d) (.type n)=some b:=by
 unfold QZ at hn;simp only [Bool.or_eq_true,beq_iff_eq] at hn;rcases hn with (((rfl | rfl) | rfl) | rfl) | rfl <;> cases d <;> cases e <;> rfl
theorem FZ {n:String} {d:PyData} {b:Bool} (e:Jc n d=some b):∀kvs,d≠.dict kvs:=fun kvs z=>by subst z;cases e
theorem dX.ty {K:PySem.W.Frag} {Z Θ:List Addr} {env:En} {σ:St} {H:Hp} {d:PyData} {v:V} (h:dX Z Θ env σ H d v) (hd:∀kvs,d≠.dict kvs):oG K H v (ZM d):=by
 cases d with
 | none=>exact RX.ty (d:=.none) h
 | bool b=>exact RX.ty (d:=.bool b) h
 | int i=>exact RX.ty (d:=.int i) h
 | str z=>exact RX.ty (d:=.str z) h
 | list ds=>
  obtain ⟨a,vs,rfl,ha,r⟩:=h.lst;exact .lst ha
 | tuple ds=>
  obtain ⟨a,vs,rfl,ha,r⟩:=h.tup;exact .tup ha
 | dict kvs=>exact absurd rfl (hd kvs)
def rE (n:String) (f:FB):FE:=fun env C=>match f env C with
 | some (d,_,C1)=>match Jc n d with
  | some b=>some (.im (.bool b),env,C1)
  | none=>none
 | none=>none
def Ga (m n:String) (f:FB):FE:=fun env C=>match f env C with
 | some (d,_,C1)=>match Jc m d,Jc n d with
  | some p,some q=>some (.im (.bool (p || q)),env,C1)
  | _,_=>none
 | none=>none
section
variable {X:Cx} {a t t':Expr} {p pos tp:Pos} {x1:Nat}
theorem jP {n:String} {f:FB} (hn:QZ n=true) (ha:PE X a (mL X.K f)) (ht:PE X t (tC (.ty n))) (hg:Gl X "isinstance") (hm:X.mg "isinstance"=none) (hv:bootBuiltins "isinstance"=some (.builtin "isinstance"))
  (he:starEach [a,t] X.env=(false,eval a X.env)::starEach [t] X.env:=by rfl) (he2:starEach [t] X.env=(false,eval t X.env)::starEach [] X.env:=by rfl) (hpl:(backTo pos (starEach [t] X.env)).any (·.1)=false:=by rfl):
  PE X (.Call (.Name "isinstance" p) [a,t] [] pos) (tE X.K (rE n f)):=
 (rW Ej hg hm hv (dZ ha (dZ ht jH he2) he) (by decide) (by decide) he hpl).weak fun σ H Q aZ=>by
  obtain ⟨Z,Θ,env,C,r,env',C',S,hf,q⟩:=aZ;unfold rE at hf;split at hf
  case h_2=>cases hf
  rename_i d e1 C1 h1;split at hf
  case h_2=>cases hf
  rename_i b hb;cases hf;refine ⟨Z,Θ,env,C,d,e1,C',S,h1,fun v H1 k f S1 b1=>⟨v,n,ZM d,b,rfl,b1.ty (FZ hb),Jd hn hb,q _ H1 k (Fz.refl _) ⟨S.go k S1.cell,rfl⟩⟩⟩
theorem UJ {m n:String} {f:FB} (hm':QZ m=true) (hn:QZ n=true) (ha:PE X a (mL X.K f)) (ht:PE X t (tC (.ty m))) (ht':PE X t' (tC (.ty n))) (hg:Gl X "isinstance") (hm:X.mg "isinstance"=none) (hv:bootBuiltins "isinstance"=some (.builtin "isinstance"))
  (he:starEach [a,.Tuple [t,t'] x1 tp] X.env=(false,eval a X.env)::starEach [.Tuple [t,t'] x1 tp] X.env:=by rfl) (he2:starEach [.Tuple [t,t'] x1 tp] X.env=(false,eval (.Tuple [t,t'] x1 tp) X.env)::starEach [] X.env:=by rfl)
  (h3:starEach [t,t'] X.env=(false,eval t X.env)::starEach [t'] X.env:=by rfl) (h4:starEach [t'] X.env=(false,eval t' X.env)::starEach [] X.env:=by rfl)
  (hpl:(backTo pos (starEach [.Tuple [t,t'] x1 tp] X.env)).any (·.1)=false:=by rfl):
  PE X (.Call (.Name "isinstance" p) [a,.Tuple [t,t'] x1 tp] [] pos) (tE X.K (Ga m n f)):=
 (rW Bm hg hm hv (dZ ha (dZ (HB (dZ ht (dZ ht' jH h4) h3)) jH he2) he) (by decide) (by decide) he hpl).weak fun σ H Q aZ=>by
  obtain ⟨Z,Θ,env,C,r,env',C',S,hf,q⟩:=aZ;unfold Ga at hf;split at hf
  case h_2=>cases hf
  rename_i d e1 C1 h1;split at hf
  case h_2=>cases hf
  rename_i b b' hb hb';cases hf;refine ⟨Z,Θ,env,C,d,e1,C',S,h1,fun v H1 k f S1 b1=>⟨by show 2≤sizeLine;rw [sizeLine_eq];decide,fun c hc=>?_⟩⟩;have kc:bY Θ H1 (upd H1 c (.tup [.ty m,.ty n])):=bY.upd hc;have s2:=S1.xH (bu.upd (o:=.tup [.ty m,.ty n]) hc);have b2:=b1.go S1 kc (Fz.refl _);refine ⟨v,c,m,n,ZM d,b,b',rfl,aP,b2.ty (FZ hb),Jd hm' hb,Jd hn hb',q _ _ (k.trans kc) (Fz.refl _) ⟨S.go (k.trans kc) s2.cell,rfl⟩⟩
end
def ins {α:Type} (lt:α→α→Bool) (x:α):List α→List α
 | []=>[x]
 | y::r=>if lt y x then y::ins lt x r else x::y::r
def ir {α:Type} (lt:α→α→Bool):List α→List α
 | []=>[]
 | x::r=>ins lt x (ir lt r)
section
variable {α:Type} {lt:α→α→Bool}
theorem xZ (x:α):∀l:List α,(ins lt x l).Perm (x::l)
 | []=>List.Perm.refl _
 | y::r=>by
  unfold ins;split
  ·exact ((xZ x r).cons y).trans (List.Perm.swap x y r)
  ·exact List.Perm.refl _
theorem dI:∀l:List α,(ir lt l).Perm l
 | []=>List.Perm.refl _
 | x::r=>(xZ x _).trans ((dI r).cons x)
structure Ab (lt:α→α→Bool) (P:α→Prop):Prop where
 ZP:∀a b,P a→P b→lt a b=true→lt b a=false
 neg:∀a b c,P a→P b→P c→lt a c=true→lt a b=true∨lt b c=true
 tot:∀a b,P a→P b→lt a b=false→lt b a=false→a=b
theorem Q0 {P:α→Prop} (O:Ab lt P) {x:α} (hx:P x):∀{l:List α},(∀y∈l,P y)→l.Pairwise (fun a b=>lt b a=false)→(ins lt x l).Pairwise (fun a b=>lt b a=false)
 | [],_,_=>List.pairwise_cons.mpr ⟨fun _ m=>(nomatch m),List.Pairwise.nil⟩
 | y::r,hp,h=>by
  rw [List.pairwise_cons] at h;have py:=hp y List.mem_cons_self;unfold ins;split
  ·rename_i hl;rw [List.pairwise_cons];refine ⟨fun z m=>?_,Q0 O hx (fun z m=>hp z (List.mem_cons_of_mem _ m)) h.2⟩;rcases List.mem_cons.mp ((xZ x r).mem_iff.mp m) with rfl | m
   ·exact O.ZP _ _ py hx hl
   ·exact h.1 z m
  ·rename_i hl;have hl:lt y x=false:=by simpa using hl
   rw [List.pairwise_cons,List.pairwise_cons];refine ⟨fun z m=>?_,h.1,h.2⟩;rcases List.mem_cons.mp m with rfl | m
   ·exact hl
   ·have pz:=hp z (List.mem_cons_of_mem _ m);cases hz:lt z x with
    | false=>rfl
    | true=>
     rcases O.neg z y x pz py hx hz with h1 | h1
     ·rw [h.1 z m] at h1;cases h1
     ·rw [hl] at h1;cases h1
theorem yc {P:α→Prop} (O:Ab lt P):∀{l:List α},(∀y∈l,P y)→(ir lt l).Pairwise (fun a b=>lt b a=false)
 | [],_=>List.Pairwise.nil
 | x::r,hp=>Q0 O (hp x List.mem_cons_self) (fun y m=>hp y (List.mem_cons_of_mem _ ((dI r).mem_iff.mp m))) (yc O fun y m=>hp y (List.mem_cons_of_mem _ m))
theorem Q3 {P:α→Prop} (O:Ab lt P):∀{l m:List α},(∀y∈l,P y)→l.Perm m→l.Pairwise (fun a b=>lt b a=false)→m.Pairwise (fun a b=>lt b a=false)→l=m
 | [],m,_,p,_,_=>(List.nil_perm.mp p).symm
 | x::r,[],_,p,_,_=>absurd p.length_eq (by simp)
 | x::r,y::t,hp,p,h1,h2=>by
  have pm:∀z∈y::t,P z:=fun z m=>hp z (p.mem_iff.mpr m)
  rw [List.pairwise_cons] at h1 h2;have e:x=y:=by
   have m1:x∈y::t:=p.mem_iff.mp List.mem_cons_self;have m2:y∈x::r:=p.mem_iff.mpr List.mem_cons_self;rcases List.mem_cons.mp m1 with e | m1
   ·exact e
   ·rcases List.mem_cons.mp m2 with e | m2
    ·exact e.symm
    ·exact O.tot x y (hp x List.mem_cons_self) (pm y List.mem_cons_self) (h2.1 x m1) (h1.1 y m2)
  subst e;rw [Q3 O (fun z m=>hp z (List.mem_cons_of_mem _ m)) ((List.perm_cons x).mp p) h1.2 h2.2]
theorem Cp {P:α→Prop} (O:Ab lt P) {l m:List α} (hp:∀y∈l,P y) (p:m.Perm l) (h:m.Pairwise (fun a b=>lt b a=false)):m=ir lt l:=
 Q3 O (fun y hy=>hp y (p.mem_iff.mp hy)) (p.trans (dI l).symm) h (yc O hp)
end
def ltI (i j:Int):Bool:=decide (i < j)
theorem abJ:Ab ltI (fun _=>True):=⟨fun a b _ _ h=>by unfold ltI at *;simp at *;omega,fun a b c _ _ _ h=>by unfold ltI at *;simp at *;omega,fun a b _ _ h1 h2=>by unfold ltI at *;simp at *;omega⟩
theorem UL:Ab strLt (fun _=>True):=by
 refine ⟨fun a b _ _ h=>?_,fun a b c _ _ _ h=>?_,fun a b _ _ h1 h2=>?_⟩
 ·exact T8 (a:=.inr a) (b:=.inr b) h
 ·exact Xm (a:=.inr a) (b:=.inr b) (c:=.inr c) rfl rfl h
 ·exact Sum.inr.inj (Xn (a:=.inr a) (b:=.inr b) rfl h1 h2)
def strsOf:List PyData→Option (List Str)
 | []=>some []
 | .str i::r=>match strsOf r with
  | some t=>some (i::t)
  | none=>none
 | _=>none
theorem ye {E:Hp}:∀{ds:List PyData} {ns:List Str} {vs:List V},strsOf ds=some ns→gn E ds vs→vs=ns.map V.str
 | [],ns,vs,h,r=>by cases h;exact r
 | .str i::ds,ns,vs,h,r=>by
  unfold strsOf at h;split at h
  ·rename_i t ht;cases h;obtain ⟨u,w,rfl,q,s⟩:=r;rw [ye ht s];have:u=.str i:=q;rw [this];rfl
  ·cases h
 | .none::_,_,_,h,_=>by cases h
 | .bool _::_,_,_,h,_=>by cases h
 | .int _::_,_,_,h,_=>by cases h
 | .list _::_,_,_,h,_=>by cases h
 | .tuple _::_,_,_,h,_=>by cases h
 | .dict _::_,_,_,h,_=>by cases h
def yf:PyData→Option (List Bool)
 | .tuple xs=>(keysOf xs).map fun ks=>ks.map eX
 | _=>none
def uQ:Key→PyData
 | .inl i=>.int i
 | .inr x=>.str x
def vA:PyData→List Key
 | .tuple xs=>(keysOf xs).getD []
 | _=>[]
def yg (ds:List PyData):List PyData:=(xm (ds.map vA)).map fun k=>.tuple (k.map uQ)
def Gb (ds:List PyData):Option (List PyData):=if ds.length < 64 then match intsOf ds with
  | some ns=>some ((ir ltI ns).map .int)
  | none=>match strsOf ds with
   | some zs=>some ((ir strLt zs).map .str)
   | none=>match ds with
    | []=>some []
    | d::_=>match yf d with
     | some (b::sh)=>if (ds.all fun e=>decide (yf e=some (b::sh))) then some (yg ds) else none
     | _=>none
 else none
def tL:List PyData→Option Vl
 | [.list ds]=>(Gb ds).map fun l=>.ow (.list l)
 | _=>none
def Je (K:PySem.W.Frag):List V→Hp→VK→Prop:=fun xs H Q=>((∃(p:Addr) (ns:List Int),xs=[.ref p]∧di K H p (ns.map V.int)∧ns.length < 64∧∀(l:Addr) (ns':List Int),H l=none→ns'.Perm ns→ns'.Pairwise (·≤·)→Q (.ref l) (upd H l (.lst (ns'.map V.int))))∨
 ∃(p:Addr) (ns:List Str),xs=[.ref p]∧di K H p (ns.map V.str)∧ns.length < 64∧∀(l:Addr) (ns':List Str),H l=none→ns'.Perm ns→sortedS ns'=true→Q (.ref l) (upd H l (.lst (ns'.map V.str))))∨
 ∃(p:Addr) (rows:List Row) (b:Bool) (sh:List Bool),xs=[.ref p]∧di K H p (rows.map fun r=>V.ref r.1)∧rows.length < 64∧(∀r∈rows,H r.1=some (.tup (r.2.map kV))∧r.2.map eX=b::sh)∧∀(l:Addr) (rows':List Row),H l=none→rows'.Perm rows→rows'.map (·.2)=xm (rows.map (·.2))→Q (.ref l) (upd H l (.lst (rows'.map fun r=>V.ref r.1)))
theorem Jf {X:Cx}:cY X (.builtin "sorted") (Je X.K):=(uy.or uz).or sU
theorem sortI {ns ns':List Int} (p:ns'.Perm ns) (h:ns'.Pairwise (·≤·)):ns'=ir ltI ns:=Cp abJ (fun _ _=>trivial) p (h.imp fun {a b} hab=>by unfold ltI;simp;exact hab)
theorem Q4:∀{x:Str} {r:List Str},risingS x r=true→(x::r).Pairwise (fun a b=>strLt b a=false)
 | x,[],_=>List.pairwise_cons.mpr ⟨fun _ m=>(nomatch m),List.Pairwise.nil⟩
 | x,y::r,h=>by
  unfold risingS at h;rw [Bool.and_eq_true,Bool.not_eq_true'] at h;have ih:=Q4 h.2;have hxy:strLt y x=false:=by
   have:=h.1;unfold strLt;rw [lt_meets];exact this
  rw [List.pairwise_cons];refine ⟨fun z m=>?_,ih⟩;rcases List.mem_cons.mp m with rfl | m
  ·exact hxy
  ·rw [List.pairwise_cons] at ih;cases hz:strLt z x with
   | false=>rfl
   | true=>
    rcases UL.neg z y x trivial trivial trivial hz with h1 | h1
    ·rw [ih.1 z m] at h1;cases h1
    ·rw [hxy] at h1;cases h1
theorem Jg {ns ns':List Str} (p:ns'.Perm ns) (h:sortedS ns'=true):ns'=ir strLt ns:=Cp UL (fun _ _=>trivial) p (by
 cases ns' with
 | nil=>exact List.Pairwise.nil
 | cons x r=>exact Q4 h)
theorem tM:∀{xs:List PyData} {ks:List Key},keysOf xs=some ks→xs=ks.map uQ
 | [],ks,h=>by cases h;rfl
 | x::xs,ks,h=>by
  unfold keysOf at h;split at h
  ·rename_i k t h1 h2;cases h;rw [tM h2];have:x=uQ k:=by
    cases x <;> first | (cases h1;rfl) | cases h1
   rw [this];rfl
  ·cases h
theorem o7:∀ks:List Key,keysOf (ks.map uQ)=some ks
 | []=>rfl
 | k::ks=>by
  show (match c7 (uQ k),keysOf (ks.map uQ) with | some k,some t=>some (k::t) | _,_=>none)=_;rw [o7 ks];cases k <;> rfl
theorem Ng {ds:List PyData} {rows rows':List Row} (e:ds=rows.map (fun r=>.tuple (r.2.map uQ))) (h:rows'.map (·.2)=xm (rows.map (·.2))):(rows'.map fun r=>PyData.tuple (r.2.map uQ))=yg ds:=by
 have e1:ds.map vA=rows.map (·.2):=by
  rw [e,List.map_map];refine List.map_congr_left fun r _=>?_
  show (keysOf (r.2.map uQ)).getD []=r.2;rw [o7];rfl
 unfold yg;rw [e1,←h,List.map_map];rfl
theorem Nh {ds:List PyData} (h:∀d∈ds,(yf d).isSome=true):(yg ds).Perm ds:=by
 have:=(MN (ds.map vA)).map fun k=>PyData.tuple (k.map uQ)
 refine this.trans (List.Perm.of_eq ?_);rw [List.map_map];refine (List.map_congr_left fun d hd=>?_).trans (List.map_id ds);have hs:=h d hd;cases d with
 | tuple xs=>
  show PyData.tuple (((keysOf xs).getD []).map uQ)=.tuple xs;cases hk:keysOf xs with
  | none=>
   have hs:((keysOf xs).map fun ks=>ks.map eX).isSome=true:=hs;rw [hk] at hs;cases hs
  | some ks=>rw [tM hk];rfl
 | _=>cases hs
theorem yh {E:Hp} {sh:List Bool}:∀{ds:List PyData} {vs:List V},(∀d∈ds,yf d=some sh)→gn E ds vs→∃rows:List Row,vs=rows.map (fun r=>V.ref r.1)∧ds=rows.map (fun r=>.tuple (r.2.map uQ))∧∀r∈rows,E r.1=some (.tup (r.2.map kV))∧r.2.map eX=sh
 | [],vs,_,r=>⟨[],r,rfl,fun _ m=>(nomatch m)⟩
 | d::ds,vs,h,r=>by
  obtain ⟨u,w,rfl,q,s⟩:=r;obtain ⟨rows,e1,e2,e3⟩:=yh (fun d m=>h d (List.mem_cons_of_mem _ m)) s;have hd:=h d List.mem_cons_self;cases d <;> first | cases hd | skip
  rename_i xs;have hd:(keysOf xs).map (fun ks=>ks.map eX)=some sh:=hd;cases hk:keysOf xs with
  | none=>rw [hk] at hd;cases hd
  | some ks=>
   rw [hk] at hd;obtain ⟨a,vs',rfl,ha,rr⟩:=q;rw [jE hk rr] at ha;refine ⟨(a,ks)::rows,by rw [e1];rfl,by rw [e2,tM hk];rfl,fun r m=>?_⟩;rcases List.mem_cons.mp m with rfl | m
   ·exact ⟨ha,Option.some.inj hd⟩
   ·exact e3 r m
theorem o8 {E:Hp}:∀{rows:List Row},(∀r∈rows,E r.1=some (.tup (r.2.map kV)))→gn E (rows.map fun r=>.tuple (r.2.map uQ)) (rows.map fun r=>V.ref r.1)
 | [],_=>rfl
 | r::rows,h=>by
  refine ⟨_,_,rfl,⟨r.1,r.2.map kV,rfl,h r List.mem_cons_self,?_⟩,o8 fun r m=>h r (List.mem_cons_of_mem _ m)⟩;generalize r.2=ks;induction ks with
  | nil=>rfl
  | cons k ks ih=>exact ⟨_,_,rfl,by cases k <;> rfl,ih⟩
theorem Gd:∀{ds:List PyData} {ns:List Int},intsOf ds=some ns→ds=ns.map .int
 | [],ns,h=>by cases h;rfl
 | .int i::ds,ns,h=>by
  unfold intsOf at h;split at h
  ·rename_i t ht;cases h;rw [Gd ht];rfl
  ·cases h
 | .none::_,_,h=>by cases h
 | .bool _::_,_,h=>by cases h
 | .str _::_,_,h=>by cases h
 | .list _::_,_,h=>by cases h
 | .tuple _::_,_,h=>by cases h
 | .dict _::_,_,h=>by cases h
theorem yj:∀{ds:List PyData} {ns:List Str},strsOf ds=some ns→ds=ns.map .str
 | [],ns,h=>by cases h;rfl
 | .str i::ds,ns,h=>by
  unfold strsOf at h;split at h
  ·rename_i t ht;cases h;rw [yj ht];rfl
  ·cases h
 | .none::_,_,h=>by cases h
 | .bool _::_,_,h=>by cases h
 | .int _::_,_,h=>by cases h
 | .list _::_,_,h=>by cases h
 | .tuple _::_,_,h=>by cases h
 | .dict _::_,_,h=>by cases h
theorem Ni {K:PySem.W.Frag}:BR K (Je K) tL:=by
 intro Z Θ env C σ H xs ds0 res S b e Q q;unfold tL at e;split at e
 case h_2=>cases e
 rename_i ds;cases hs:Gb ds with
 | none=>rw [hs] at e;cases e
 | some l=>
  rw [hs] at e;cases e;obtain ⟨v,rfl,bb⟩:=nQ b;obtain ⟨a,vs,rfl,ha,r⟩:=bb.lst;unfold Gb at hs;split at hs
  case isFalse=>cases hs
  rename_i hl;split at hs
  ·rename_i ns hns;cases hs;have ev:=xW hns r;subst ev;refine .inl (.inl ⟨a,ns,rfl,di.of ha,by rw [Gd hns,List.length_map] at hl;exact hl,fun l ns' hn p hp=>?_⟩);rw [sortI p hp];exact q _ _ (bY.upd hn) (fV S (Qj _) hn)
  ·split at hs
   ·rename_i ns hns;cases hs;have ev:=ye hns r;subst ev;refine .inl (.inr ⟨a,ns,rfl,di.of ha,by rw [yj hns,List.length_map] at hl;exact hl,fun l ns' hn p hp=>?_⟩);rw [Jg p hp];exact q _ _ (bY.upd hn) (fV S (xK _) hn)
   ·split at hs
    ·cases hs;cases (show vs=[] from r);exact .inl (.inl ⟨a,[],rfl,di.of ha,by decide,fun l ns' hn p hp=>by
      rw [List.perm_nil.mp p];exact q _ _ (bY.upd hn) (fV S rfl hn)⟩)
    ·rename_i d0 dr hi1 hi2;split at hs
     case h_2=>cases hs
     rename_i b0 sh hsh;split at hs
     case isFalse=>cases hs
     rename_i hall;cases hs;have hall':∀d∈d0::dr,yf d=some (b0::sh):=fun d m=>of_decide_eq_true (List.all_eq_true.mp hall d m)
     obtain ⟨rows,e1,e2,e3⟩:=yh hall' r;subst e1;refine .inr ⟨a,rows,b0,sh,rfl,di.of ha,?_,fun r m=>⟨bZ (e3 r m).1,(e3 r m).2⟩,fun l rows' hn p hp=>?_⟩
     ·have:=congrArg List.length e2;rw [List.length_map] at this;rw [←this];exact hl
     ·have es:(rows'.map fun r=>PyData.tuple (r.2.map uQ))=yg (d0::dr):=Ng e2 hp;rw [←es] at q;exact q _ _ (bY.upd hn) (fV S (o8 fun r m=>(e3 r (p.mem_iff.mp m)).1) hn)
def tO (ds:List PyData):Option (List PyData):=if ds.length < 64 then match strsOf ds with
  | some ns=>some ((ir strLt (dedup ns)).map .str)
  | none=>none
 else none
section
variable {X:Cx} {l:Expr} {f:FB} {p1 p2 pos1 pos2:Pos}
end
def Cq:PyData→PyData→Option Vl
 | .str z,.list ds=>match strsOf ds with
  | some ys=>if (ys.map (·.length)).sum + ys.length * z.length≤LIM then some (.im (.str (Txt.join z ys))) else none
  | none=>none
 | _,_=>none
def o9 (f g:FB):FE:=aH Cq f g
theorem Cr {X:Cx} {o e:Expr} {f g:FB} {apos cpos:Pos} (ho:PE X o (mL X.K f)) (he:PE X e (mL X.K g))
  (hbase:attributeBase o "join" X.env (eval o X.env)=eval o X.env:=by rfl)
  (hfew:((backTo cpos (starEach [e] X.env)).all (fun x=>!x.1)&&(backToKw cpos (keywordEach [] X.env)).all (fun x=>x.1.isSome)
   &&decide (([e]:List Expr).length + ([]:List Keyword).length + (if ([]:List Keyword).isEmpty then 0 else 1) < 30))=true:=by rfl)
  (hline:(apos.endLine==cpos.line)=true:=by rfl) (hs:starEach [e] X.env=(false,eval e X.env)::starEach [] X.env:=by rfl) (hplain:(backTo cpos (starEach [] X.env)).any (·.1)=false:=by rfl):
  PE X (.Call (.Attribute o "join" apos) [e] [] cpos) (tE X.K (o9 f g)):=
 (O8 PySem.F.plainAttrs_str PySem.F.slot_str_join PySem.F.type_str_join (VB.r TY) ho (dZ he jH hs) hbase hfew hline hs hplain).weak fun σ H Q aZ=>by
  obtain ⟨Z,Θ,env,C,r,env',C',S,hf,q⟩:=aZ;unfold o9 aH at hf;split at hf
  case h_2=>cases hf
  rename_i x e1 C1 h1;split at hf
  case h_2=>cases hf
  rename_i y e2 C2 h2;split at hf
  case h_2=>cases hf
  rename_i r0 h3;cases hf;refine ⟨Z,Θ,env,C,x,e1,C1,S,h1,fun v H1 k1 f1 S1 b1=>?_⟩;unfold Cq at h3;split at h3
  case h_2=>cases h3
  rename_i z ds;split at h3
  case h_2=>cases h3
  rename_i ys hys;split at h3
  case isFalse=>cases h3
  rename_i hl;cases h3;cases b1.str;refine ⟨rfl,Z,Θ,e1,C1,_,e2,C',S1,h2,fun w H2 k2 f2 S2 b2=>?_⟩;obtain ⟨a,vs,rfl,ha,rr⟩:=b2.lst;rw [ye hys rr] at ha;have kk:=k1.trans k2;refine ⟨z,a,ys,rfl,rfl,di.of ha,by unfold LIM at hl;omega,?_⟩;exact q _ H2 kk ((f1.trans f2).rst _) (Res.rst S kk ⟨S2,rfl⟩)
abbrev FO:=En→Ce→Option (Option Int×Ce)
inductive Z8 (K:PySem.W.Frag) (f:FO) (σ:St) (H:Hp) (Q:Option Int→Hp→Prop):Prop
 | mk (Z Θ:List Addr) (env:En) (C:Ce) (o:Option Int) (C':Ce) (S:Sm K Z Θ env C σ H) (hf:f env C=some (o,C')) (q:∀H',bY Θ H H'→Sm K Z Θ env C' σ H'→Q o H'):Z8 K f σ H Q
def vB:FO:=fun _ C=>some (none,C)
def m5 (f:FB):FO:=fun env C=>match f env C with
 | some (.int i,_,C1)=>some (some i,C1)
 | _=>none
def jQ {α:Type} (xs:List α) (lo hi:Option Int):List α:=(xs.drop (HT.fJ xs.length 0 lo)).take (HT.fJ xs.length xs.length hi - HT.fJ xs.length 0 lo)
def Hj (lo hi:Option Int):PyData→Option Vl
 | .str z=>if z.length≤LIM then some (.im (.str (Txt.slice z lo hi))) else none
 | .list ds=>some (.ow (.list (jQ ds lo hi)))
 | .tuple ds=>some (.im (.tuple (jQ ds lo hi)))
 | _=>none
def qe (f:FB) (lo hi:FO):FE:=fun env C=>match f env C with
 | some (d,e1,C1)=>match lo e1 C1 with
  | some (l,C2)=>match hi e1 C2 with
   | some (h,C3)=>match Hj l h d with
    | some r=>some (r,rst r env e1,C3)
    | none=>none
   | none=>none
  | none=>none
 | none=>none
theorem Cu {E:Hp} {ds:List PyData} {vs:List V} {lo hi:Option Int} (r:gn E ds vs):gn E (jQ ds lo hi) (wL vs lo hi):=by
 unfold jQ wL;rw [bW r];exact Ew _ (Ex _ r)
section
variable {X:Cx} {e:Expr} {lo hi:Option Expr} {pos p2:Pos}
theorem PO.weak {o:Option Expr} {t t':TO} (h:PO X o t) (w:∀σ H Q,t' σ H Q→t σ H Q):PO X o t':=fun pins s σ H Q I q=>h pins s σ H Q I (w σ H Q q)
theorem qL:PO X none (Z8 X.K vB):=Tn.weak fun σ H Q aZ=>by
 obtain ⟨Z,Θ,env,C,o,C',S,hf,q⟩:=aZ;cases hf;exact q H (bY.refl _ _) S
theorem gf {f:FB} (h:PE X e (mL X.K f)):PO X (some e) (Z8 X.K (m5 f)):=(Tp h).weak fun σ H Q aZ=>by
 obtain ⟨Z,Θ,env,C,o,C',S,hf,q⟩:=aZ;unfold m5 at hf;split at hf
 ·rename_i i e1 C1 h1;cases hf;exact ⟨Z,Θ,env,C,_,e1,C',S,h1,fun v H1 k f S1 b1=>⟨i,b1,q H1 k (S.go k S1.cell)⟩⟩
 ·cases hf
theorem jR {f:FB} {flo fhi:FO} (he:PE X e (mL X.K f)) (hl:PO X lo (Z8 X.K flo)) (hh:PO X hi (Z8 X.K fhi)):PE X (.Subscript e (.Slice lo hi none p2) pos) (tE X.K (qe f flo fhi)):=(O3 ((Xh.or Tt).or T9) he hl hh).weak fun σ H Q aZ=>by
 obtain ⟨Z,Θ,env,C,r,env',C',S,hf,q⟩:=aZ;unfold qe at hf;split at hf
 case h_2=>cases hf
 rename_i d e1 C1 h1;split at hf
 case h_2=>cases hf
 rename_i l C2 h2;split at hf
 case h_2=>cases hf
 rename_i h C3 h3;split at hf
 case h_2=>cases hf
 rename_i r0 h4;cases hf;refine ⟨Z,Θ,env,C,d,e1,C1,S,h1,fun v H1 k1 f1 S1 b1=>⟨Z,Θ,e1,C1,l,C2,S1,h2,fun H2 k2 S2=>⟨Z,Θ,e1,C2,h,C',S2,h3,fun H3 k3 S3=>?_⟩⟩⟩;have kk:=(k1.trans k2).trans k3;have b3:=b1.go S1 (k2.trans k3) (Fz.refl _);have fin:∀{w:V} {H4:Hp},bY Θ H3 H4→Res X.K Z Θ e1 C' σ H3 H4 r w→Q w H4:=fun {w H4} k4 R=>q w H4 (kk.trans k4) (f1.rst _) ((R.from kk).rst S (kk.trans k4))
 cases d <;> first | cases h4 | skip
 ·rename_i z;simp only [Hj] at h4;split at h4
  ·rename_i hz;cases h4;cases b3.str;exact .inl (.inl ⟨z,rfl,fM hz,fin (bY.refl _ _) (bL S3 rfl rfl)⟩)
  ·cases h4
 ·obtain ⟨a,vs,rfl,ha,rr⟩:=b3.lst;exact .inl (.inr ⟨a,vs,rfl,di.of ha,fun p hp=>fin (bY.upd hp) (fV S3 (Cu rr) hp)⟩)
 ·rename_i ds;have b3':=b3;obtain ⟨a,vs,rfl,ha,rr⟩:=b3.tup;refine .inr ⟨a,vs,rfl,jD.of ha,fun ec=>?_,fun p hp=>fin (bY.upd hp) (vV S3 (Cu rr) hp)⟩;have rc:=Cu (lo:=l) (hi:=h) rr;rw [ec] at rc;refine fin (bY.refl _ _) ⟨S3,a,vs,rfl,uF S3 ha,rc⟩
end
def vC (T:ou) (ft:FT) (fk fv:FE) (fs:En):List PyData→List (PyData×PyData)→Ce→Option (List (PyData×PyData)×Ce)
 | [],acc,C=>some (acc,C)
 | d::r,acc,C=>match V6 T d with
  | some ts=>match ft (mO ts++fs) C with
   | some (false,C1)=>vC T ft fk fv fs r acc C1
   | some (true,C1)=>match fk (mO ts++fs) C1 with
    | some (.im k,_,C2)=>match fv (mO ts++fs) C2 with
     | some (x,_,C3)=>match still x,c7 k with
      | .im y,some kk=>if acc.length < LIM then vC T ft fk fv fs r (uM c7 kk k y acc) C3 else none
      | _,_=>none
     | none=>none
    | _=>none
   | none=>none
  | none=>none
def Jh:List (PyData×PyData)→Bool
 | []=>true
 | p::r=>zx p.2&&Jh r
def Z9 (fi:FI) (T:ou) (ft:FT) (fk fv:FE) (js:List Nat):FE:=fun env C=>match fi env C with
 | some (its,e1,C1)=>match vC T ft fk fv (frB js e1) its [] C1 with
  | some (kvs,C2)=>some (.ow (.dict kvs),if Jh kvs then e1 else qI js e1,C2)
  | none=>none
 | none=>none
theorem um.zx {H H':Hp} (t:∀a vs,H a=some (.tup vs)→H' a=some (.tup vs)):∀{ds:List (PyData×PyData)} {vs:List V},Jh ds=true→um H ds vs→um H' ds vs
 | [],_,_,h=>h
 | (k,d)::ds,vs,n,h=>by
  obtain ⟨v,r,e,q,w⟩:=h;have n':L2.zx d=true∧Jh ds=true:=by rw [Jh,Bool.and_eq_true] at n;exact n
  exact ⟨v,r,e,RZ.zx t n'.1 q,um.zx t n'.2 w⟩
def X3 (fk fv:FE):En→List (PyData×PyData)→Ce→Option (List (PyData×PyData)×Ce):=fun env acc C=>(fk env C).bind fun p=>(imO p.1).bind fun k=>(fv env p.2.2).bind fun q=>(imO (still q.1)).bind fun y=>(c7 k).bind fun kk=>bif decide (acc.length < LIM) then some (uM c7 kk k y acc,q.2.2) else none
theorem Cv {T:ou} {ft:FT} {fk fv:FE} {fs:En} {p:List (PyData×PyData)×Ce}:∀{its:List PyData} {acc:List (PyData×PyData)} {C:Ce},vC T ft fk fv fs its acc C=some p→qJ T ft (X3 fk fv) fs its acc C=some p
 | [],acc,C,h=>h
 | d::r,acc,C,h=>by
  unfold vC at h;unfold qJ;split at h
  case h_2=>cases h
  rename_i ts ht;rw [ht,Option.bind_some];split at h
  case h_3=>cases h
  ·rename_i C1 hf;rw [hf,Option.bind_some];exact Cv h
  ·rename_i C1 hf;rw [hf,Option.bind_some];show (X3 fk fv (mO ts++fs) acc C1).bind _=_;unfold X3;split at h
   case h_2=>cases h
   rename_i k e2 C2 hk;rw [hk,Option.bind_some,show imO (.im k)=some k from rfl,Option.bind_some];split at h
   case h_2=>cases h
   rename_i x e3 C3 hx;rw [hx,Option.bind_some];split at h
   case h_2=>cases h
   rename_i y kk hy hkk;rw [hy,show imO (.im y)=some y from rfl,Option.bind_some,hkk,Option.bind_some];split at h
   case isFalse=>cases h
   rename_i hl;rw [decide_eq_true hl];exact Cv h
inductive ObD (P:List Addr) (D:Addr) (acc:List (PyData×PyData)) (H:Hp):Prop
 | mk (ks:List Key) (vs:List V) (hk:cM c7 acc=some ks) (hD:H D=some (.dK (ks.zip vs))) (r:um (er P H) acc vs):ObD P D acc H
theorem UT {K:PySem.W.Frag} {fi:FI} {T:ou} {ft:FT} {fk fv:FE} {js:List Nat}:∀σ H Q,tE K (Z9 fi T ft fk fv js) σ H Q→tDC K (tI K true fi) T (fun _=>nM K ft) (fun _=>tE K fk) (fun _=>tE K fv) js σ H Q:=by
 rintro σ H Q ⟨Z,Θ,env,C,res,env',C',S,hf,q⟩;unfold Z9 at hf;split at hf
 case h_2=>cases hf
 rename_i its e1 C1 h1;split at hf
 case h_2=>cases hf
 rename_i kvs C2 h2;cases hf;refine ⟨Z,Θ,env,C,its,e1,C1,S,h1,fun J H1 k1 f1 S1 it D hD b=>?_⟩;have vN:D∉Θ:=fun m=>(S1.cell.dom D m).ne hD
 have dPB:D∈aR (mF D Z (qI js e1) σ) Θ [] []:=(eU (js:=js) rfl).mpr (.inl rfl);have YB:∀a Hx Hy,bY Θ Hx Hy→ObD (aR (mF D Z (qI js e1) σ) Θ [] []) D a Hx→ObD (aR (mF D Z (qI js e1) σ) Θ [] []) D a Hy:=fun a Hx Hy kk r=>by
  obtain ⟨ks,vs,g1,g2,g3⟩:=r;exact ⟨ks,vs,g1,kk.keep _ _ g2 vN,g3.same (gA kk (fun a m=>bV.mpr (.inr (.inl m))) fun a m=>.inl m)⟩
 refine xX (a0:=[]) (Ob:=ObD (aR (mF D Z (qI js e1) σ) Θ [] []) D) S1 it hD ⟨[],[],rfl,aP,rfl⟩ YB (fun a Hx r=>by obtain ⟨ks,vs,_,e,_⟩:=r;exact ⟨_,e,fun _ z=>nomatch z⟩) ?_ (Cv h2) fun H2 ki ci r=>?_
 ·intro ts acc C2 p vs H4 Q hs S4 k4 r4 hQ;obtain ⟨w,hfk,hs⟩:=cg hs;obtain ⟨kd,X4,hs⟩:=cg hs;obtain ⟨w2,hfv,hs⟩:=cg hs;obtain ⟨yd,QS,hs⟩:=cg hs;obtain ⟨kk,hkd,hs⟩:=cg hs;have X4:=xM X4;have QS:=xM QS;cases hlt:decide (acc.length < LIM) with
  | false=>rw [hlt] at hs;cases hs
  | true=>
  rw [hlt] at hs;cases hs;refine ⟨_,Θ,_,C2,w.1,w.2.1,w.2.2,S4,hfk,fun y H5 k5 f5 R5=>?_⟩;rw [X4] at R5;have S5:=S4.go k5 R5.1.cell;refine ⟨_,Θ,_,w.2.2,w2.1,w2.2.1,w2.2.2,S5,hfv,fun z H6 k6 f6 R6=>?_⟩;obtain ⟨S6,r6⟩:=R6.qH QS;obtain ⟨ks,Ck,hks,hD6,r6'⟩:=YB _ _ _ (k5.trans k6) r4;have noB:bD w2.2.1 (vs.map some++frees js σ)=[]:=by
   have:=(Fz.own (σ:=vs.map some++frees js σ) f6)
   rw [uO Cd] at this;exact List.sublist_nil.mp this
  have e6:er (aR (mF D Z (qI js e1) σ) Θ w2.2.1 (vs.map some++frees js σ)) H6=er (aR (mF D Z (qI js e1) σ) Θ [] []) H6:=jM fun a=>by rw [eU (js:=js) noB,eU (js:=js) rfl]
  rw [e6] at r6;obtain ⟨ks',vs',g3,g4,g5⟩:=vX hkd r6 hks r6';have lt:=of_decide_eq_true hlt;refine ⟨ks.zip Ck,kk,hD6,Qs hkd R5.2,?_,hQ _ (Jb (Hy:=H6) hD ((k4.trans k5).trans k6)) (tH vN S6.cell) ⟨ks',vs',g3,by rw [g5];exact aP,?_⟩⟩
  ·rw [List.length_zip,sizeLine_eq,jb hks];unfold LIM at lt;omega
  ·rw [I9 dPB];exact g4
 ·obtain ⟨ks,Ck,hks,hDi,ri⟩:=r;refine q _ H2 (k1.trans ki) ?_ ?_
  ·split
   ·exact f1
   ·exact f1.trans (uN js e1)
  ·refine ⟨D,rfl,k1.none hD,?_⟩;split
   ·rename_i hn;have SD:=S1.xU hD ki ⟨_,hDi,fun _ z=>nomatch z⟩ ci;exact ⟨SD,Ck,.inl ⟨ks,hks,hDi⟩,ri.zx (fun a vs e=>uF SD (bZ e)) hn⟩
   ·refine ⟨(S1.fz (uN js e1)).xU hD ki ⟨_,hDi,fun _ z=>nomatch z⟩ ci,Ck,.inl ⟨ks,hks,hDi⟩,?_⟩;rw [jM (P':=aR (D::Z) Θ (qI js e1) σ) fun a=>by rw [eU (js:=js) rfl];show _ ↔ a∈D::aR Z Θ (qI js e1) σ;rw [List.mem_cons]] at ri;exact ri
section
variable {X:Cx} {NT NF:List Str} {js:List Nat} {kx vx tg iter:Expr} {ifs:List Expr} {T:ou} {fi:FI} {ft:FT} {fk fv:FE} {scope:Scope} {pos:Pos}
theorem Q5 {i:Nat} {y:Str} {pos' spos:Pos} (B:lZ X NT NF js scope) (tk:sG tg NT T) (hc:X.calm=true) (hu:X.A.units + 1 < cLine) (hi:PI X tg iter (tI X.K true fi))
  (hin:∀b,Hh (X.bk (NT++NF) scope b) ifs (nM X.K ft)∧PE (X.bk (NT++NF) scope b) kx (tE X.K fk)∧PE (X.bk (NT++NF) scope b) vx (tE X.K fv))
  (hsw:swapsWith (.DictComp kx vx [⟨tg,iter,ifs,0⟩] scope pos) (some (.Name y pos')) spos.line X.env=pure true) (hN:X.N.Nodup) (hI:X.N[i]?=some y) (hy:X.env.scope.names.lookup y=some .local)
  (hs:∀x,foldedSetIterable iter X.env x=pure x:=by intro _;rfl):PS X (.Assign [.Name y pos'] (.DictComp kx vx [⟨tg,iter,ifs,0⟩] scope pos) spos) (tS X.K (fSet i (Z9 fi T ft fk fv js))):=(Py B tk hc hu hi hin hsw hN hI hy hs).weak (xV UT)
end
section
variable {X:Cx}
def Cw:List PyData→Option Vl
 | [.dict []]=>none
 | [.dict ((k,v)::r)]=>match yf k with
  | some (b::sh)=>if r.length < 63∧(((k,v)::r).all fun p=>decide (yf p.1=some (b::sh)))=true then some (.ow (.list (yg (((k,v)::r).map (·.1))))) else none
  | _=>none
 | _=>none
theorem Ac {sh:List Bool}:∀{kvs:List (PyData×PyData)} {ks:List (List Key)},cM nJ kvs=some ks→(∀p∈kvs,yf p.1=some sh)→kvs.map (·.1)=ks.map (fun k=>.tuple (k.map uQ))∧∀k∈ks,k.map eX=sh
 | [],ks,h,_=>by cases h;exact ⟨rfl,fun _ m=>(nomatch m)⟩
 | (p,d)::kvs,ks,h,hs=>by
  unfold cM at h;split at h
  ·rename_i k t h1 h2;cases h;obtain ⟨g1,g2⟩:=Ac h2 fun q m=>hs q (List.mem_cons_of_mem _ m)
   have hp:=hs (p,d) List.mem_cons_self;obtain ⟨xs,rfl,hx⟩:∃xs,p=.tuple xs∧keysOf xs=some k:=by
    have h1':nJ p=some k:=h1;cases p with
    | tuple xs=>exact ⟨xs,rfl,h1'⟩
    | _=>cases h1'
   have hp:(keysOf xs).map (fun ks=>ks.map eX)=some sh:=hp;rw [hx] at hp;refine ⟨by rw [List.map_cons,g1,tM hx];rfl,fun k' m=>?_⟩;rcases List.mem_cons.mp m with rfl | m
   ·exact Option.some.inj hp
   ·exact g2 k' m
  ·cases h
theorem Q6 {K:PySem.W.Frag}:BR K (fun xs H Q=>∃(d:Addr) (kvs:List (List Key×V)) (b:Bool) (sh:List Bool),xs=[.ref d]∧H d=some (.dT kvs)∧kvs.length < 64∧(∀kv∈kvs,kv.1.map eX=b::sh)∧
  ∀(l:Addr) (rows:List Row),H l=none→(rows.map (·.2)).Perm (kvs.map (·.1))→rows.map (·.2)=xm (kvs.map (·.1))→(∀r∈rows,H r.1=some (.tup (r.2.map kV)))→Q (.ref l) (upd H l (.lst (rows.map fun r=>V.ref r.1)))) Cw:=by
 intro Z Θ env C σ H xs ds res S b e Q q;unfold Cw at e;split at e
 ·cases e
 ·rename_i k0 v0 r0;split at e
  case h_2=>cases e
  rename_i b0 sh hsh;split at e
  case isFalse=>cases e
  rename_i hall;cases e;have hall':∀p∈(k0,v0)::r0,yf p.1=some (b0::sh):=fun d m=>of_decide_eq_true (List.all_eq_true.mp hall.2 d m)
  obtain ⟨v,rfl,bb⟩:=nQ b;obtain ⟨a,vs,rfl,da,r⟩:=bb.dct;rcases da with ⟨ks,h1,ha⟩ | ⟨ks,⟨ne,h2⟩,ha⟩
  ·exfalso;unfold cM at h1;split at h1
   ·rename_i k' t g1 g2;have g1:c7 k0=some k':=g1;cases k0 <;> first | cases g1 | skip
    all_goals cases hsh
   ·cases h1
  ·obtain ⟨e1,e2⟩:=Ac h2 hall';have lk:=jb h2;have lr:=sV r;have ez:(ks.zip vs).map (·.1)=ks:=by
    rw [List.map_fst_zip];rw [lk,lr];exact Nat.le_refl _
   refine ⟨a,ks.zip vs,b0,sh,rfl,ha,?_,fun kv m=>e2 kv.1 (List.of_mem_zip (a:=kv.1) (b:=kv.2) m).1,fun l rows hn p hp hr=>?_⟩
   ·rw [List.length_zip,lk,lr,List.length_cons];omega
   ·rw [ez] at hp;have ek:(((k0,v0)::r0).map (·.1)).map vA=ks:=by
     rw [e1,List.map_map];refine (List.map_congr_left fun k _=>?_).trans (List.map_id ks);show (keysOf (k.map uQ)).getD []=k;rw [o7];rfl
    have es:(rows.map fun r=>PyData.tuple (r.2.map uQ))=yg (((k0,v0)::r0).map (·.1)):=by
     unfold yg;rw [ek,←hp,List.map_map];rfl
    rw [←es] at q;exact q _ _ (bY.upd hn) (fV S (o8 fun r m=>uF S (hr r m)) hn)
 ·cases e
theorem Q7 {K:PySem.W.Frag} {r r':List V→Hp→VK→Prop} {op op':List PyData→Option Vl} (h:BR K r op) (h':BR K r' op'):BR K (fun xs H Q=>r xs H Q∨r' xs H Q) (fun ds=>match op ds with | some z=>some z | none=>op' ds):=by
 intro Z Θ env C σ H xs ds res S b e Q q;cases h1:op ds with
 | some z=>
  simp only [h1] at e;cases e;exact .inl (h Z Θ env C σ H xs ds _ S b h1 Q q)
 | none=>
  simp only [h1] at e;exact .inr (h' Z Θ env C σ H xs ds res S b e Q q)
end
def tQ:List PyData→List PyData→List PyData
 | x::xs,y::ys=>.tuple [x,y]::tQ xs ys
 | _,_=>[]
theorem KJ:∀{xs ys:List PyData} {i:Nat} {d:PyData},(tQ xs ys)[i]?=some d→∃x y,xs[i]?=some x∧ys[i]?=some y∧d=.tuple [x,y]
 | [],_,i,d,h=>by simp [tQ] at h
 | _::_,[],i,d,h=>by simp [tQ] at h
 | x::xs,y::ys,0,d,h=>by
  simp [tQ] at h;exact ⟨x,y,rfl,rfl,h.symm⟩
 | x::xs,y::ys,i + 1,d,h=>by
  obtain ⟨a,b,h1,h2,h3⟩:=KJ (i:=i) (by simpa [tQ] using h);exact ⟨a,b,by simpa using h1,by simpa using h2,h3⟩
theorem Ge:∀{xs ys:List PyData},(tQ xs ys).length=min xs.length ys.length
 | [],_=>by simp [tQ]
 | _::_,[]=>by simp [tQ]
 | x::xs,y::ys=>by simp [tQ,Ge,Nat.succ_min_succ]
theorem X5 {K:PySem.W.Frag} {P T:List Addr} {H:Hp} {a b:Addr} {ds es:List PyData} {vs ws:List V} (ha:er T H a=some (.lst vs)) (hb:er T H b=some (.lst ws)) (r1:gn (er P H) ds vs) (r2:gn (er P H) es ws):Fw P T H (Itz K a b) (tQ ds es):=fun i H2 P2 s1 s2 n=>by
 have h2:di K H2 a vs:=di.of (bZ (s2 _ _ ha));have h3:di K H2 b ws:=di.of (bZ (s2 _ _ hb));refine ⟨fun d hd=>?_,fun hi=>⟨vs,ws,h2,h3,by rw [hi,Ge,bW r1,bW r2]⟩⟩;obtain ⟨x,y,e1,e2,rfl⟩:=KJ hd;obtain ⟨v,ev,rv⟩:=oR r1 e1;obtain ⟨w,ew,rw'⟩:=oR r2 e2;refine ⟨⟨vs,ws,h2,h3,?_⟩,fun z H3 yl=>?_⟩
 ·have l1:=(List.getElem?_eq_some_iff.mp ev).1;have l2:=(List.getElem?_eq_some_iff.mp ew).1;omega
 ·obtain ⟨p,v',w',hp,rfl,rfl,hh⟩:=yl;obtain ⟨g1,g2⟩:=hh vs ws h2 h3;rw [ev] at g1;rw [ew] at g2;cases g1;cases g2;have sp:bu H2 (upd H2 p (.tup [v,w])):=bu.upd hp;refine ⟨sp,p,[v,w],rfl,?_,v,[w],rfl,rv.same (s1.trans (Bp sp)),w,[],rfl,rw'.same (s1.trans (Bp sp)),rfl⟩;unfold er;rw [if_neg (fun m=>n p m hp),aP]
def iZp (f:Sy):FI:=fun env C=>match f env C with
 | some ([.list xs,.list ys],e1,C1)=>some (tQ xs ys,e1,C1)
 | _=>none
theorem X6 {X:Cx} {es:List Expr} {k:Nat} {ps:Pos} {x y:Expr} {f:Sy} {p pos:Pos} (hg:Gl X "zip") (hm:X.mg "zip"=none) (ha:PA X [x,y] (Ui X.K f)) (hs:starEach [x,y] X.env=[(false,eval x X.env),(false,eval y X.env)]:=by rfl) (hs2:starEach [y] X.env=[(false,eval y X.env)]:=by rfl):
  PI X (.Tuple es k ps) (.Call (.Name "zip" p) [x,y] [] pos) (tI X.K true (iZp f)):=(Xl hg hm ha hs hs2).weak fun σ H R aZ=>by
 obtain ⟨Z,Θ,env,C,its,env',C',S,hf,q⟩:=aZ;unfold iZp at hf;split at hf
 case h_2=>cases hf
 rename_i xs ys e1 C1 h1;cases hf;refine ⟨Z,Θ,env,C,_,env',C',S,h1,fun vs H1 k f S1 b1=>?_⟩;cases b1 with
 | cons b1 b2=>
  cases b2 with
  | cons b2 b3=>
   cases b3;obtain ⟨a,vs1,rfl,ha,r1⟩:=b1;obtain ⟨b,vs2,rfl,hb,r2⟩:=b2;exact ⟨a,b,vs1,vs2,rfl,di.of (bZ ha),di.of (bZ hb),q _ H1 k f S1 (X5 ha hb r1 r2)⟩
section
variable {X:Cx} {tg e:Expr}
def itD2:PyData→Option (List PyData)
 | .list ds=>some ds
 | .tuple ds=>some ds
 | _=>none
def iB2 (f:FB):FI:=fun env C=>match f env C with
 | some (d,e1,C1)=>match itD2 d with
  | some its=>some (its,e1,C1)
  | none=>none
 | none=>none
def iV2 (f:FE):FI:=fun env C=>match f env C with
 | some (r,e1,C1)=>match still r with
  | .im d=>match itD2 d with
   | some its=>some (its,e1,C1)
   | none=>none
  | _=>none
 | none=>none
theorem Gf {f:FB} (h:PE X e (mL X.K f)):PI X tg e (tI X.K true (iB2 f)):=((JS h).or (Ou h)).weak fun σ H R aZ=>by
 obtain ⟨Z,Θ,env,C,its,env',C',S,hf,q⟩:=aZ;unfold iB2 at hf;split at hf
 ·rename_i d e1 C1 h1;split at hf
  ·rename_i ys hi;cases hf;cases d <;> first | cases hi | skip
   ·refine .inl ⟨Z,Θ,env,C,_,env',C',S,h1,fun v H1 k f S1 b=>?_⟩;obtain ⟨a,vs,rfl,ha,r⟩:=b;exact ⟨a,rfl,⟨vs,di.of (bZ ha)⟩,q _ H1 k f S1 (KC ha r)⟩
   ·refine .inr ⟨Z,Θ,env,C,_,env',C',S,h1,fun v H1 k f S1 b=>?_⟩;obtain ⟨a,vs,rfl,ha,r⟩:=b;exact ⟨a,rfl,⟨vs,jD.of (bZ ha)⟩,q _ H1 k f S1 (QK ha r)⟩
  ·cases hf
 ·cases hf
theorem ym (hc:X.calm=true):cY X (.builtin "sorted") (fun xs H Q=>∃d:Addr,xs=[.ref d]∧H d=some (.dK [])∧∀l,H l=none→Q (.ref l) (upd H l (.lst []))):=by
 intro pins s σ H xs us Q I r h;obtain ⟨d,rfl,hd,q⟩:=h;refine cX (nH hc pins s σ (upd H d (.dT [])) [.ref d] us (fun v H'=>∃l,v=.ref l∧H l=none∧H'=upd (upd H d (.dT [])) l (.lst [])) (I.reK hd) r ⟨d,[],true,[],rfl,aP,by decide,(fun _ m=>nomatch m),fun l rows hl p _ _=>?_⟩) fun u s' ⟨v,H',I',rv,l,ev,hl,eH⟩=>?_
 ·have:rows=[]:=by
   cases rows with
   | nil=>rfl
   | cons _ _=>exact absurd p.length_eq (by simp)
  subst this;refine ⟨l,rfl,?_,rfl⟩;by_cases z:l=d
  ·subst z;rw [aP] at hl;cases hl
  ·rw [aV z] at hl;exact hl
 ·subst ev eH;have nd:d≠l:=cJ hd hl;have e:upd (upd H d (.dT [])) l (.lst [])=upd (upd H l (.lst [])) d (.dT []):=by
   funext b;by_cases h1:b=l
   ·subst h1;rw [aP,aV (Ne.symm nd),aP]
   ·rw [aV h1];by_cases h2:b=d
    ·subst h2;rw [aP,aP]
    ·rw [aV h2,aV h2,aV h1]
  rw [e] at I';exact ⟨.ref l,_,I'.reT (by rw [aV nd];exact hd),rv,q l hl⟩
def Cy:List PyData→Option Vl
 | [.dict []]=>some (.ow (.list []))
 | _=>none
theorem Q8 {K:PySem.W.Frag}:BR K (fun xs H Q=>∃d:Addr,xs=[.ref d]∧H d=some (.dK [])∧∀l,H l=none→Q (.ref l) (upd H l (.lst []))) Cy:=by
 intro Z Θ env C σ H xs ds res S b e Q q;unfold Cy at e;split at e
 case h_2=>cases e
 cases e;obtain ⟨v,rfl,bb⟩:=nQ b;obtain ⟨a,vs,rfl,da,r⟩:=bb.dct;rcases da with ⟨ks,h1,ha⟩ | ⟨ks,⟨ne,_⟩,_⟩
 ·cases h1;exact ⟨a,rfl,ha,fun l hl=>q _ _ (bY.upd hl) (fV S rfl hl)⟩
 ·exact absurd rfl ne
def vZ (ds:List PyData):Option Vl:=match tL ds with
 | some z=>some z
 | none=>match Cw ds with
  | some z=>some z
  | none=>Cy ds
abbrev Q9 (K:PySem.W.Frag):List V→Hp→VK→Prop:=fun xs H Q=>Je K xs H Q∨((∃(d:Addr) (kvs:List (List Key×V)) (b:Bool) (sh:List Bool),xs=[.ref d]∧H d=some (.dT kvs)∧kvs.length < 64∧(∀kv∈kvs,kv.1.map eX=b::sh)∧
  ∀(l:Addr) (rows:List Row),H l=none→(rows.map (·.2)).Perm (kvs.map (·.1))→rows.map (·.2)=xm (kvs.map (·.1))→(∀r∈rows,H r.1=some (.tup (r.2.map kV)))→Q (.ref l) (upd H l (.lst (rows.map fun r=>V.ref r.1))))∨∃d:Addr,xs=[.ref d]∧H d=some (.dK [])∧∀l,H l=none→Q (.ref l) (upd H l (.lst [])))
theorem Ji (hc:X.calm=true):cY X (.builtin "sorted") (Q9 X.K):=Jf.or ((nH hc).or (ym hc))
theorem Ra {K:PySem.W.Frag}:BR K (Q9 K) vZ:=Q7 Ni (Q7 Q6 Q8)
end
def Rb:FN:=fun _ _=>none
theorem UW {P:Program} {w:World} {K:PySem.W.Frag} {mg:Str→Option Value} {base:Heap} {f:Addr} {fd:FuncData} {ps:List Str}:cZ P w K mg base oh 0 f fd ps (spT K Rb):=by
 have no:∀vs H Q E,¬spT K Rb vs H Q E:=fun vs H Q E ⟨_,_,_,_,_,_,_,_,h,_⟩=>nomatch h
 exact ⟨fun _ _ _ _ h=>(no _ _ _ _ h).elim,fun _ _ _ _ _ _ _ _ _ _ _ _ _ h=>(no _ _ _ _ h).elim⟩
def yo (i:Nat) (f:FB):FE:=fun env C=>match env[i]? with
 | some (some (.ce n))=>match f env C with
  | some (.int k,_,C1)=>match C1[n]? with
   | some ns=>match n6 ns k with
    | some z=>some (.im (.int z),env,C1)
    | none=>none
   | none=>none
  | _=>none
 | _=>none
theorem rF {X:Cx} {o k:Expr} {i:Nat} {pos:Pos} {f:FB} (ho:PE X o (wF i)) (hk:PE X k (mL X.K f)) (hs:vP k):PE X (.Subscript o k pos) (tE X.K (yo i f)):=(O4 Bc ho hk hs).weak fun σ H Q aZ=>by
 obtain ⟨Z,Θ,env,C,r,env',C',S,hf,q⟩:=aZ;unfold yo at hf;split at hf
 case h_2=>cases hf
 rename_i n h0;split at hf
 case h_2=>cases hf
 rename_i z e1 C1 h1;split at hf
 case h_2=>cases hf
 rename_i ns hns;split at hf
 case h_2=>cases hf
 rename_i y hy;cases hf;obtain ⟨v,ev,a,rfl,hth⟩:=S.slot i _ h0;refine ⟨_,ev,Z,Θ,env,C,_,e1,C',S,h1,fun w H1 k1 f1 S1 b1=>?_⟩;have S2:=S.go k1 S1.cell;have ha:=S1.cell.at_ n a ns hth hns;refine ⟨a,_,z,.int y,rfl,b1,di.of ha,?_,q _ H1 k1 (Fz.refl _) ⟨S2,rfl⟩⟩;unfold n6 at hy ⊢;rw [List.length_map];cases hj:HN ns.length z with
 | none=>rw [hj] at hy;cases hy
 | some j=>
  rw [hj] at hy;show (ns.map V.int)[j]?=_;rw [List.getElem?_map,show ns[j]?=some y from hy];rfl
def Bx (C:Ce) (b:Nat) (n:Int):Prop:=∃x y z:Int,C[b]?=some [x,y,z]∧0≤x∧0≤y∧y≤3000000000∧0≤z∧z≤n
theorem Bx.mono {C:Ce} {b:Nat} {n m:Int} (h:Bx C b n) (hm:n≤m):Bx C b m:=by
 obtain ⟨x,y,z,h1,h2,h3,h4,h5,h6⟩:=h;exact ⟨x,y,z,h1,h2,h3,h4,h5,by omega⟩
theorem Rc {C:Ce} {b:Nat} {l l':List Int} (h:C[b]?=some l):(C.set b l')[b]?=some l':=by
 rw [List.getElem?_set,if_pos rfl,if_pos (List.getElem?_eq_some_iff.mp h).1]
theorem Gg {C C':Ce} (h:C'.length=C.length):C'.take C.length=C':=List.take_of_length_le (by omega)
theorem mul_eq {i j:Int} (h:(-18446744073709551616 < i∧i < 18446744073709551616)∨(-18446744073709551616 < j∧j < 18446744073709551616)):eN (.int i) (.int j)=some (.im (.int (i * j))):=by
 unfold eN;exact if_pos h
theorem mod_eq {i j:Int} (h:0 < j):fO (.int i) (.int j)=some (.im (.int (i % j))):=by
 unfold fO;exact if_pos h
theorem fdiv_eq {i j:Int} (h:0 < j) (h1:j < 1073741824):oV (.int i) (.int j)=some (.im (.int (i / j))):=by
 unfold oV;exact if_pos ⟨h,h1⟩
theorem Gh {g:FG} {body:FS} (I:Nat→En→Ce→Prop):∀{its:List PyData} {env:En} {C:Ce} {k:Nat},I k env C→
  (∀i d env C,its[i]?=some d→I (k + i) env C→∃e1 fl env' C',g d env=some e1∧body e1 C=some (fl,env',C')∧(fl=.nx∨fl=.ct)∧I (k + i + 1) env' C')→
  ∃env' C',eO g body its env C=some (.nx,env',C')∧I (k + its.length) env' C'
 | [],env,C,k,h,_=>⟨env,C,rfl,h⟩
 | d::r,env,C,k,h,st=>by
  obtain ⟨e1,fl,abK,C1,h1,h2,h3,h4⟩:=st 0 d env C rfl h;obtain ⟨aaa,C2,h5,h6⟩:=Gh I (its:=r) (env:=abK) (C:=C1) (k:=k + 1) h4 fun i d' env C hd hi=>by
   have:=st (i + 1) d' env C (by simpa using hd) (by rw [show k + (i + 1)=k + 1 + i by omega];exact hi);rw [show k + (i + 1) + 1=k + 1 + i + 1 by omega] at this;exact this
  refine ⟨aaa,C2,?_,by rw [List.length_cons,show k + (r.length + 1)=k + 1 + r.length by omega];exact h6⟩;unfold eO;rw [h1];simp only;rw [h2];rcases h3 with rfl | rfl <;> exact h5
theorem iI {g:FG} {body:FS} (I:Nat→En→Ce→Prop) {its:List PyData} {env:En} {C:Ce} (h:I 0 env C)
  (st:∀i d env C,its[i]?=some d→I i env C→∃e1 fl env' C',g d env=some e1∧body e1 C=some (fl,env',C')∧(fl=.nx∨fl=.ct)∧I (i + 1) env' C'):
  ∃env' C',eO g body its env C=some (.nx,env',C')∧I its.length env' C':=by
 have:=Gh I (k:=0) h fun i d env C hd hi=>by
  rw [Nat.zero_add] at hi ⊢;exact st i d env C hd hi
 rw [Nat.zero_add] at this;exact this
theorem tR (lo:Int) (n:Nat):(ju lo n).length=n:=by unfold ju;rw [List.length_map,List.length_range]
theorem qg {lo:Int} {n i:Nat} {d:PyData} (h:(ju lo n)[i]?=some d):d=.int (lo + i)∧i < n:=by
 unfold ju at h;rw [List.getElem?_map] at h;by_cases hi:i < n
 ·rw [List.getElem?_range hi] at h;exact ⟨(Option.some.inj h).symm,hi⟩
 ·rw [List.getElem?_eq_none (by rw [List.length_range];omega)] at h;cases h
theorem Ad {T:ou} {fe:FE} {fs:En} (I:Nat→Ce→Prop) (R:Nat→PyData→Prop):∀{its:List PyData} {C:Ce} {k:Nat},I k C→(∀i d C,its[i]?=some d→I (k + i) C→∃ts x e C' y,V6 T d=some ts∧fe (mO ts++fs) C=some (x,e,C')∧still x=.im y∧R (k + i) y∧I (k + i + 1) C')→
  ∃ys C',gH T gZ fe fs its C=some (ys,C')∧I (k + its.length) C'∧ys.length=its.length∧∀i y,ys[i]?=some y→R (k + i) y
 | [],C,k,h,_=>⟨[],C,rfl,h,rfl,fun i y e=>by simp at e⟩
 | d::r,C,k,h,st=>by
  obtain ⟨ts,x,e,C1,y,h1,h2,h3,h4,h5⟩:=st 0 d C rfl h;obtain ⟨ys,C2,h6,h7,h8,h9⟩:=Ad I R (its:=r) (C:=C1) (k:=k + 1) h5 fun i d' C hd hi=>by
   have:=st (i + 1) d' C (by simpa using hd) (by rw [show k + (i + 1)=k + 1 + i by omega];exact hi);rw [show k + (i + 1) + 1=k + 1 + i + 1 by omega,show k + (i + 1)=k + 1 + i by omega] at this;exact this
  refine ⟨y::ys,C2,?_,by rw [List.length_cons,show k + (r.length + 1)=k + 1 + r.length by omega];exact h7,by simp [h8],fun i z hz=>?_⟩
  ·unfold gH;simp only [h1,gZ,h2,h3];rw [h6]
  ·cases i with
   | zero=>simp at hz;subst hz;exact h4
   | succ i=>
    have:=h9 i z (by simpa using hz);rw [show k + (i + 1)=k + 1 + i by omega];exact this
theorem Rf {α:Type} {xs:List α} {k:Int} (h0:0≤k) (h1:k < xs.length):∃x,n6 xs k=some x∧xs[k.toNat]?=some x:=by
 have hk:k.toNat < xs.length:=by omega
 refine ⟨xs[k.toNat],?_,List.getElem?_eq_getElem hk⟩;unfold n6 HN;rw [if_pos h0,if_pos h1];exact List.getElem?_eq_getElem hk
def azB (z:Str):Bool:=z.cps.toList.all fun c=>decide (97≤c)&&decide (c≤122)
def nameB (z:Str):Bool:=decide (1≤z.length)&&decide (z.length≤8)&&azB z
abbrev abc:Str:=Str.ofString "abcdefghijklmnopqrstuvwxyz"
theorem X7 {r:Int} (r0:0≤r) (r1:r < 26):n6 abc.cps.toList r=some (97 + r.toNat):=by
 have h:∀k:Nat,k < 26→n6 abc.cps.toList (k:Int)=some (97 + k):=by decide +kernel
 have:=h r.toNat (by omega)
 rwa [Int.toNat_of_nonneg r0] at this
theorem yp:∀(l:List Nat) (a:Array Nat),((l.map fun c=>(⟨#[c]⟩:Str)).foldl (fun acc p=>acc++(Str.ofString "").cps++p.cps) a).toList=a.toList++l
 | [],a=>by simp
 | c::r,a=>by
  simp only [List.map_cons,List.foldl_cons];rw [yp r];have e:(Str.ofString "").cps=#[]:=by decide +kernel
  rw [e];simp
theorem yq:∀(l:List Nat),(Txt.join (Str.ofString "") (l.map fun c=>(⟨#[c]⟩:Str))).cps.toList=l
 | []=>by decide +kernel
 | c::r=>by
  show (((r.map fun c=>(⟨#[c]⟩:Str))).foldl (fun acc p=>acc++(Str.ofString "").cps++p.cps) #[c]).toList=c::r;rw [yp r];rfl
theorem KN:∀ys:List Nat,(ys.map ((fun x:Str=>x.length) ∘ fun c=>(⟨#[c]⟩:Str))).sum=ys.length
 | []=>rfl
 | c::r=>by
  rw [List.map_cons,List.sum_cons,KN r,List.length_cons];show 1 + r.length=r.length + 1;omega
theorem KQ {z:Str} {l u:Option Int} {c:Nat} (hc:c∈(Txt.slice z l u).cps.toList):c∈z.cps.toList:=by
 unfold Txt.slice at hc;split at hc
 ·exact hc
 ·have hc':c∈((Builtin.Str.strSliceIndices l u 1 z.length).filterMap (z.cps[·]?)):=by simpa using hc
  obtain ⟨i,_,e⟩:=List.mem_filterMap.mp hc';have:=Array.mem_of_getElem? e;simpa using this
def Names (zs:List Str):Prop:=zs.Nodup∧∀z∈zs,nameB z=true
theorem tU (z:Str) (zs:List Str):inD (.str z) (zs.map .str)=decide (z∈zs):=by
 unfold inD;rw [Bool.eq_iff_iff,List.any_map];simp [List.any_eq_true,O6,toV]
theorem Rg {z:Str} (h:nameB z=true):1≤z.length∧z.length≤8∧∀c∈z.cps.toList,97≤c∧c≤122:=by
 unfold nameB azB at h;simp only [Bool.and_eq_true,decide_eq_true_eq,List.all_eq_true] at h;exact ⟨h.1.1,h.1.2,h.2⟩
def Asc (z:Str):Prop:=∀c∈z.cps.toList,c < 128
def KR (n:Nat) (z:Str):Prop:=Asc z∧z.length≤n
theorem KR.mono {n m:Nat} {z:Str} (h:KR n z) (hm:n≤m):KR m z:=⟨h.1,Nat.le_trans h.2 hm⟩
theorem KR.line {n:Nat} {z:Str} (h:KR n z) (hn:n≤100000:=by omega):z.length≤sizeLine:=T3 (m:=100000) (Nat.le_trans h.2 hn)
theorem KR.slice {n:Nat} {z:Str} (h:KR n z) (l u:Option Int):KR n (Txt.slice z l u):=by
 refine ⟨fun c hc=>?_,Nat.le_trans (Txt.slice_le z l u) h.2⟩;unfold Txt.slice at hc;split at hc
 ·exact h.1 c hc
 ·have hc':c∈((Builtin.Str.strSliceIndices l u 1 z.length).filterMap (z.cps[·]?)):=by simpa using hc
  obtain ⟨i,_,e⟩:=List.mem_filterMap.mp hc';refine h.1 c ?_;have:=Array.mem_of_getElem? e;simpa using this
theorem KR.add {n m:Nat} {x y:Str} (h:KR n x) (g:KR m y):KR (n + m) (x++y):=by
 have e:(x++y).cps=x.cps++y.cps:=rfl;refine ⟨fun c hc=>?_,?_⟩
 ·rw [e] at hc;have:c∈x.cps.toList∨c∈y.cps.toList:=by simpa using hc
  exact this.elim (h.1 c) (g.1 c)
 ·show (x++y).cps.size≤_;rw [e,Array.size_append];exact Nat.add_le_add h.2 g.2
theorem KR.name {z:Str} (h:nameB z=true):KR 8 z:=by
 unfold nameB azB at h;simp only [Bool.and_eq_true,decide_eq_true_eq,List.all_eq_true] at h;exact ⟨fun c hc=>by have:=h.2 c hc;omega,h.1.2⟩
def bQ (zs:List Str) (ps:List (Str×Str)):Prop:=∀(i:Nat) (x:Str×Str),ps[i]?=some x→zs[i]?=some x.1∧(x.2=Str.ofString ""∨∃j,j < i∧zs[j]?=some x.2)
theorem bQ.snoc {zs:List Str} {ps:List (Str×Str)} {a b:Str} (h:bQ zs ps) (ha:zs[ps.length]?=some a) (hb:b=Str.ofString ""∨∃j,j < ps.length∧zs[j]?=some b):bQ zs (ps++[(a,b)]):=by
 intro i x e;by_cases hi:i < ps.length
 ·rw [List.getElem?_append_left hi] at e;exact h i x e
 ·rw [List.getElem?_append_right (by omega)] at e;by_cases h0:i - ps.length=0
  ·rw [h0] at e;cases e;have:i=ps.length:=by omega
   subst this;exact ⟨ha,hb⟩
  ·rw [List.getElem?_eq_none (by simp;omega)] at e;cases e
def dz (ps:List (Str×Str)) (z:Str):Option Str:=(ps.find? fun p=>decide (p.1=z)).map (·.2)
inductive Over (f:Str→Option Str):Str→List Str→Prop
 | stop {z:Str}:f z=none→Over f z []
 | step {z y:Str} {r:List Str}:f z=some y→Over f y r→Over f z (z::r)
structure Shw (e B:Nat) (d:PyData):Prop where
 abM:d.showable=true
 deep:d.depth≤e
 len:d.shown.length≤B
theorem Shw.mono {e e' B B':Nat} {d:PyData} (h:Shw e B d) (he:e≤e') (hB:B≤B'):Shw e' B' d:=⟨h.abM,Nat.le_trans h.deep he,Nat.le_trans h.len hB⟩
abbrev pA:=Int×Str×Int×Str×Int×Int
abbrev bz:=Int×Str×Str×Str×Int×Int×Int
abbrev Gi:=Int×Str
abbrev KY:=Str×Int×List Gi
def qM (r:pA):PyData:=.tuple [.int r.1,.str r.2.1,.int r.2.2.1,.str r.2.2.2.1,.int r.2.2.2.2.1,.int r.2.2.2.2.2]
def bK (r:bz):PyData:=.tuple [.int r.1,.str r.2.1,.str r.2.2.1,.str r.2.2.2.1,.int r.2.2.2.2.1,.int r.2.2.2.2.2.1,.int r.2.2.2.2.2.2]
def KZ (s:Gi):PyData:=.tuple [.int s.1,.str s.2]
def X8 (ss:List Gi):PyData:=.tuple (ss.map KZ)
def Gj (r:KY):PyData:=.tuple [.str r.1,.int r.2.1,X8 r.2.2]
def qN (p:Str×Str):PyData:=.tuple [.str p.1,.str p.2]
structure fH where
 ps:List (Str×Str)
 vD:List pA
 leaves:List bz
 rules:List KY
def dB (h:fH):PyData:=.tuple [.tuple (h.ps.map qN),.tuple (h.vD.map qM),.tuple (h.leaves.map bK),.tuple (h.rules.map Gj)]
structure Yb (zs own:List Str) (r:pA):Prop where
 num:0≤r.1∧r.1≤2000
 who:r.2.1∈zs
 rank:1≤r.2.2.1∧r.2.2.1≤9
 part:r.2.2.2.1∈own
 days:0≤r.2.2.2.2.1∧r.2.2.2.2.1≤r.2.2.2.2.2∧r.2.2.2.2.2≤99999
structure qi (zs own:List Str) (r:bz):Prop where
 num:0≤r.1∧r.1≤2000
 giver:r.2.1∈zs
 taker:r.2.2.1∈zs
 ne:r.2.1≠r.2.2.1
 part:r.2.2.2.1∈own
 days:0≤r.2.2.2.2.1∧r.2.2.2.2.1≤r.2.2.2.2.2.1∧r.2.2.2.2.2.1≤99999
 most:0≤r.2.2.2.2.2.2∧r.2.2.2.2.2.2≤1000000000
def Yc (own:List Str) (s:Gi):Prop:=1≤s.1∧s.1≤9∧(s.2=Str.ofString ""∨s.2∈own)
structure Yd (own:List Str) (r:KY):Prop where
 part:r.1∈own
 sum:0≤r.2.1∧r.2.1≤1000000000
 many:r.2.2.length≤6
 acG:∀s∈r.2.2,Yc own s
structure dM (zs:List Str) (ps:List (Str×Str)) (h:fH):Prop where
 parts:h.ps.Perm ps
 p8:ps.length≤8
 r20:h.vD.length≤20
 K1:h.leaves.length≤16
 u10:h.rules.length≤10
 vD:∀r∈h.vD,Yb zs (ps.map (·.1)) r
 rup:(h.vD.map (·.1)).Pairwise (· < ·)
 leaves:∀r∈h.leaves,qi zs (ps.map (·.1)) r
 lnd:(h.leaves.map (·.1)).Nodup
 rules:∀r∈h.rules,Yd (ps.map (·.1)) r
 unlike:(h.rules.map fun r=>(r.1,r.2.1)).Nodup
theorem yr {z:Str} (h:nameB z=true):PyData.strOk z=true:=by
 unfold PyData.strOk;rw [Array.all_eq_true'];intro c hc;have:=(Rg h).2.2 c (by simpa using hc);exact decide_eq_true (by omega)
theorem yt:∀{zs:List Str},(∀z∈zs,PyData.strOk z=true)→PyData.canLayAll0 (zs.map PyData.str)=true∧PyData.depthAll (zs.map PyData.str)=0∧Ey (zs.map PyData.str)=true
 | [],_=>⟨by simp [PyData.canLayAll0],by simp [PyData.depthAll],rfl⟩
 | z::zs,h=>by
  obtain ⟨h1,h2,h3⟩:=yt fun x hx=>h x (List.mem_cons_of_mem _ hx)
  refine ⟨by simp [PyData.canLayAll0,PyData.canLay0,h z List.mem_cons_self];simpa using h1,by simp only [List.map_cons,PyData.depthAll,PyData.depth,h2];rfl,?_⟩;show (true&&Ey (zs.map PyData.str))=true;rw [h3];rfl
theorem Gk {zs:List Str} (h:∀z∈zs,PyData.strOk z=true):PySem.SeqAt.shaped (.list (zs.map PyData.str))=true:=by
 obtain ⟨h1,h2,_⟩:=yt h;unfold PySem.SeqAt.shaped;simp only [PyData.canLay0,h1,PyData.depth,h2];decide
theorem Cz {α β:Type} {f:α→β}:∀{l:List α} {m:List β},m.Perm (l.map f)→∃l':List α,l'.Perm l∧m=l'.map f:=fun {l m} p=>by
 generalize e:l.map f=k at p;induction p generalizing l with
 | nil=>
  cases l with
  | nil=>exact ⟨[],List.Perm.refl _,rfl⟩
  | cons _ _=>cases e
 | @cons x m k _ ih=>
  cases l with
  | nil=>cases e
  | cons a l=>
   rw [List.map_cons,List.cons.injEq] at e;obtain ⟨l',p',rfl⟩:=ih e.2;exact ⟨a::l',p'.cons a,by rw [List.map_cons,e.1]⟩
 | swap x y m=>
  cases l with
  | nil=>cases e
  | cons a l=>
   cases l with
   | nil=>cases e
   | cons b l=>
    rw [List.map_cons,List.map_cons,List.cons.injEq,List.cons.injEq] at e;obtain ⟨e1,e2,e3⟩:=e;exact ⟨b::a::l,List.Perm.swap a b l,by rw [List.map_cons,List.map_cons,e1,e2,e3]⟩
 | trans _ _ ih1 ih2=>
  obtain ⟨l2,p2,e2⟩:=ih2 e;obtain ⟨l1,p1,e1⟩:=ih1 e2.symm;exact ⟨l1,p1.trans p2,e1⟩
theorem Jj (x:Str×Str) (ps:List (Str×Str)) (z:Str):dz (x::ps) z=if x.1=z then some x.2 else dz ps z:=by
 unfold dz;rw [List.find?_cons];by_cases h:x.1=z
 ·rw [decide_eq_true h,if_pos h];rfl
 ·rw [decide_eq_false h,if_neg h]
theorem dJ:∀{ps:List (Str×Str)} {z w:Str},(ps.map (·.1)).Nodup→(dz ps z=some w ↔ (z,w)∈ps)
 | [],z,w,_=>by simp [dz]
 | x::ps,z,w,h=>by
  rw [List.map_cons,List.nodup_cons] at h;rw [Jj];by_cases hz:x.1=z
  ·rw [if_pos hz,List.mem_cons];constructor
   ·intro e;left;rw [←hz,←Option.some.inj e]
   ·rintro (e | e)
    ·rw [←e]
    ·exact absurd (List.mem_map.mpr ⟨(z,w),e,hz.symm⟩) h.1
  ·rw [if_neg hz,dJ h.2,List.mem_cons];constructor
   ·exact .inr
   ·rintro (e | e)
    ·exact absurd (by rw [←e]) hz
    ·exact e
theorem Jk {ps ps':List (Str×Str)} (p:ps'.Perm ps) (h:(ps.map (·.1)).Nodup) (z:Str):dz ps' z=dz ps z:=by
 have h':(ps'.map (·.1)).Nodup:=(p.map (·.1)).nodup_iff.mpr h;cases e:dz ps z with
 | some w=>exact (dJ h').mpr (p.mem_iff.mpr ((dJ h).mp e))
 | none=>
  cases e':dz ps' z with
  | none=>rfl
  | some w=>
   have:=(dJ h).mpr (p.mem_iff.mp ((dJ h').mp e'));rw [e] at this;cases this
theorem rG {zs:List Str} {ps:List (Str×Str)} (h:bQ zs ps):ps.map (·.1)=zs.take ps.length:=by
 apply List.ext_getElem?;intro i;rw [List.getElem?_map,List.getElem?_take];cases e:ps[i]? with
 | none=>
  rw [if_neg (by have:=List.getElem?_eq_none_iff.mp e;omega)];rfl
 | some x=>
  rw [if_pos (List.getElem?_eq_some_iff.mp e).1,(h i x e).1];rfl
theorem jd {zs:List Str} {ps:List (Str×Str)} (hN:Names zs) (h:bQ zs ps):(ps.map (·.1)).Nodup:=by
 rw [rG h];exact hN.1.sublist (List.take_sublist _ _)
theorem CJ:nameB (Str.ofString "")=false:=by decide +kernel
theorem yu {zs:List Str} {ps:List (Str×Str)} (hN:Names zs) (h:bQ zs ps) {z:Str} (hz:z∈ps.map (·.1)):nameB z=true:=by
 rw [rG h] at hz;exact hN.2 z (List.mem_of_mem_take hz)
theorem yw {zs:List Str} {ps:List (Str×Str)} (hN:Names zs) (h:bQ zs ps):dz ps (Str.ofString "")=none:=by
 cases e:dz ps (Str.ofString "") with
 | none=>rfl
 | some w=>
  have:=(dJ (jd hN h)).mp e;have:=yu hN h (List.mem_map.mpr ⟨_,this,rfl⟩);rw [CJ] at this;cases this
def U0 (f:Str→Option Str):Nat→Str→List Str
 | 0,_=>[]
 | n + 1,z=>match f z with
  | none=>[]
  | some y=>z::U0 f n y
def up (ps:List (Str×Str)) (z:Str):List Str:=U0 (dz ps) (ps.length + 1) z
theorem yx {f:Str→Option Str} {z:Str} (h:f z=none):∀n,U0 f n z=[]
 | 0=>rfl
 | n + 1=>by unfold U0;rw [h]
theorem Gm {f:Str→Option Str} {z y:Str} (h:f z=some y) (n:Nat):U0 f (n + 1) z=z::U0 f n y:=by
 rw [U0,h]
theorem K3 {f:Str→Option Str}:∀n z,(U0 f n z).length≤n
 | 0,_=>Nat.le_refl 0
 | n + 1,z=>by
  cases h:f z with
  | none=>rw [yx h];exact Nat.zero_le _
  | some y=>
   rw [Gm h,List.length_cons];exact Nat.succ_le_succ (K3 n y)
theorem K4 {zs:List Str} {ps:List (Str×Str)} (hN:Names zs) (hP:bQ zs ps):∀(n i:Nat),i < n→∀x,ps[i]?=some x→Over (dz ps) x.1 (U0 (dz ps) n x.1)
 | 0,_,h,_,_=>absurd h (Nat.not_lt_zero _)
 | n + 1,i,h,x,hx=>by
  have e:dz ps x.1=some x.2:=(dJ (jd hN hP)).mpr (List.mem_of_getElem? hx);rw [Gm e];refine .step e ?_;rcases (hP i x hx).2 with h2 | ⟨j,hj,h2⟩
  ·rw [h2,yx (yw hN hP)];exact .stop (yw hN hP)
  ·have hi:=(List.getElem?_eq_some_iff.mp hx).1;have hjl:j < ps.length:=by omega
   have g:=hP j ps[j] (List.getElem?_eq_getElem hjl);have e2:ps[j].1=x.2:=by
    have:=g.1;rw [h2] at this;exact (Option.some.inj this).symm
   rw [←e2];exact K4 hN hP n j (by omega) ps[j] (List.getElem?_eq_getElem hjl)
theorem CK {zs:List Str} {ps:List (Str×Str)} (hN:Names zs) (hP:bQ zs ps) (z:Str):Over (dz ps) z (up ps z):=by
 unfold up;cases e:dz ps z with
 | none=>
  rw [yx e];exact .stop e
 | some w=>
  obtain ⟨i,hi,hx⟩:=List.getElem_of_mem ((dJ (jd hN hP)).mp e);have:=K4 hN hP (ps.length + 1) i (by omega) _ (List.getElem?_eq_getElem hi);rw [hx] at this;exact this
theorem Jl (ps:List (Str×Str)) (z:Str):(up ps z).length≤ps.length + 1:=K3 _ _
def cI (l:List (Str×PyData)):List (PyData×PyData):=l.map fun p=>(.str p.1,p.2)
theorem tV:∀l:List (Str×PyData),cM c7 (cI l)=some (l.map fun p=>.inr p.1)
 | []=>rfl
 | p::l=>by
  rw [show cI (p::l)=(.str p.1,p.2)::cI l from rfl];unfold cM;rw [tV l];simp only [c7];rfl
theorem CN (x z:Str):(c7 (.str x)=some (.inr z)) ↔ x=z:=by
 simp [c7]
theorem Ae (z:Str):∀l:List (Str×PyData),nO c7 (.inr z) (cI l)=(l.find? fun p=>decide (p.1=z)).map (·.2)
 | []=>rfl
 | p::l=>by
  show (if c7 (.str p.1)=some (.inr z) then some p.2 else nO c7 (.inr z) (cI l))=_;rw [List.find?_cons];by_cases h:p.1=z
  ·rw [if_pos ((CN _ _).mpr h),decide_eq_true h];rfl
  ·rw [if_neg (fun e=>h ((CN _ _).mp e)),decide_eq_false h,Ae z l]
theorem Af (l:List (Str×PyData)) (z:Str):nP (cI l) (.str z)=some ((l.find? fun p=>decide (p.1=z)).map (·.2)):=by
 show (if (cM c7 (cI l)).isSome then some (nO c7 (.inr z) (cI l)) else none)=_;rw [tV,Ae];rfl
theorem Gn {l:List (Str×PyData)} {z:Str} {d:PyData} (h:z∉l.map (·.1)):uM c7 (.inr z) (.str z) d (cI l)=cI (l++[(z,d)]):=by
 unfold uM;rw [if_neg,cI,cI,List.map_append]
 ·rfl
 ·rw [Bool.not_eq_true,List.any_eq_false];intro p hp;obtain ⟨q,hq,rfl⟩:=List.mem_map.mp hp;have:¬(c7 (.str q.1)=some (.inr z)):=fun e=>h (List.mem_map.mpr ⟨q,hq,(CN _ _).mp e⟩)
  simpa using this
theorem Gp {l:List (Str×PyData)} {z:Str} {d:PyData} (h:z∉l.map (·.1)):putD (cI l) (.str z) d=some (cI (l++[(z,d)])):=by
 show (if (cM c7 (cI l)).isSome then some (uM c7 (.inr z) (.str z) d (cI l)) else none)=_;rw [tV,Gn h];rfl
theorem Rh {α:Type} (ps:List (Str×Str)) (g:Str×Str→α) (z:Str):((ps.map fun p=>(p.1,g p)).find? fun p=>decide (p.1=z)).map (·.2)=(ps.find? fun p=>decide (p.1=z)).map g:=by
 rw [List.find?_map,Option.map_map];rfl
theorem eZ {α:Type} {T:ou} {ft:FT} {fe:FE} {fs:En} {C:Ce} (D:α→PyData) (p:α→Bool) (g:α→PyData):∀{l:List α},(∀a∈l,∃ts,V6 T (D a)=some ts∧ft (mO ts++fs) C=some (p a,C)∧(p a=true→∃x e,fe (mO ts++fs) C=some (x,e,C)∧still x=.im (g a)))→
  gH T ft fe fs (l.map D) C=some ((l.filter p).map g,C)
 | [],_=>rfl
 | d::r,h=>by
  obtain ⟨ts,h1,h2,h3⟩:=h d List.mem_cons_self;have ih:=eZ D p g (l:=r) fun d m=>h d (List.mem_cons_of_mem _ m)
  rw [List.map_cons];unfold gH;simp only [h1];rw [h2];cases hp:p d with
  | true=>
   obtain ⟨x,e,h4,h5⟩:=h3 hp;simp only [h4,h5,ih,List.filter_cons,hp,if_true,List.map_cons]
  | false=>
   simp only [ih,List.filter_cons,hp];rfl
section
variable {prog:Program} {w:World} {A:Around} {E:Value→Shared→Prop} {R:Result→Shared→Prop} {s:Shared}
theorem Nj {Q:Value→Shared→Prop} (h:Q (.ref s.heap.objs.size) { s with heap:=s.heap.push (vL w) }):wpAny (model prog w) A (newSet (.type "set")) Q E s:=by
 unfold newSet setsByText;obtain ⟨h0,g0,d0,t0,o0⟩:=s;refine wpAny_bind (wpAny_bind (wpAny_askSetting (wpAny_pure ?_)));dsimp only;simp only [newObj];exact wpAny_bind (wpAny_alloc (wpAny_pure h))
theorem Nk {elt target iter:Expr} {ifs:List Expr} {rest:List Comprehension} {scope:Scope} {pos:Pos} {it acc:Value} {env:Env} (h0:codeAny (model prog w) A (.compLoop (.SetComp elt (⟨target,iter,ifs,0⟩::rest) scope pos) 0 it acc env) R s)
  (h:wpAny (model prog w) A (pyIter it) (fun it' s'=>codeAny (model prog w) A (.compLoop (.SetComp elt (⟨target,iter,ifs,0⟩::rest) scope pos) 0 it' acc env) R s') (notedBy (model prog w) A env fun x s'=>R (.error x) s') s):
  codeAny (model prog w) A (.compStart (.SetComp elt (⟨target,iter,ifs,0⟩::rest) scope pos) 0 it acc env) R s:=by
 refine codeAny_of_tree (show wpAny _ A ((compStart (.SetComp elt (⟨target,iter,ifs,0⟩::rest) scope pos) 0 it acc env).onRaise (fun x=>do noteFrame x env;standAt theWindowsPlace)) _ _ s from wpAny_notedAt ?_);unfold compStart;refine (show wpAny _ A (ask >>= _) _ _ s from wpAny_bind (wpAny_askSetting (wpAny_ite ?_)));split
 ·first
   | exact wpAny_bind (wpAny_pure (wpAny_pure ⟨rfl,h0⟩))
   | exact wpAny_pure ⟨rfl,h0⟩
 ·first
   | exact wpAny_bind (wpAny_rule (wpAny_bind (wpAny_standAt (wpAny_bind (wpAny_mono h (fun it' s' h'=>wpAny_pure ⟨rfl,h'⟩) fun _ _ x=>x)))))
   | exact wpAny_bind (wpAny_rule (show wpAny _ _ (standAt iter.pos >>= _) _ _ s from wpAny_bind (wpAny_standAt (wpAny_bind (wpAny_mono h (fun it' s' h'=>wpAny_pure ⟨rfl,h'⟩) fun _ _ x=>x)))))
variable {T:Type} [DecidableEq T] {knd:PySem.KeyKind prog w T}
theorem Gq {a:Addr} {k:T} {key:Value} {ks:List T} {Q:Value→Shared→Prop} (hk:knd.is k key=true) (hsc:key.scannable=true) (hS:rB knd s.heap a ks) (room:ks.length + 1 < scanBound)
  (h:∀h',Heap.SameBut a s.heap h'→rB knd h' a (mX ks k)→Q .none { s with heap:=h',toks:=s.toks + 1 }):wpAny (model prog w) A (call (.builtin "set.add") [.ref a,key]) Q E s:=by
 refine wpAny_call_entry F.slot_set_add hS.ty F.entry_set_add ?_ (F.args_set_add_2 _ _);unfold Builtin.«set.add» Builtin.Frozenset.oneOther;simp only [List.isEmpty_nil,bind_assoc];unfold Builtin.Frozenset.addrOf setAdd;refine wpAny_bind (wpAny_pure ?_)
 try dsimp only
 refine wpAny_bind (wpAny_pure ?_)
 try dsimp only
 refine wpAny_bind (wpAny_holding (wpAny_bind (knd.pyHash hk ?_)));refine Ua (knd:=knd) (s:={ s with toks:=s.toks + 1 }) hk hsc hS room fun _ h' hsb hS'=>?_
 exact (show wpAny _ _ (ret Value.none) _ _ _ from wpAny_pure ⟨_,rfl,h h' hsb hS'⟩)
end
theorem CP {env:Env} (elt gens scope pos):eval (.SetComp elt gens scope pos) env=comprehension (.SetComp elt gens scope pos) scope env (firstIterPos gens pos) (newSet (.type "set")) (firstAsync gens) (firstIter gens env):=rfl
section
variable {P:Program} {w:World} {T0:Type} [DecidableEq T0] (knd:PySem.KeyKind P w T0) (mk:T0→V)
abbrev SO (a:Addr) (ks:List T0):HO:=.ext fun h=>rB knd h a ks
def Ri (D:Addr) (te:TE):TM:=fun σ H Q=>te σ H fun y H1=>∃ks k,H1 D=some (SO knd D ks)∧y=mk k∧ks.length + 1 < scanBound∧Q (upd H1 D (SO knd D (mX ks k)))
theorem Wa {H:Hp} {h:Heap} {a:Addr} {ks:List T0} (x:rB knd h a ks):cB P w H h a (SO knd a ks):=
 ⟨x,let ⟨o,_,_,_,e,_⟩:=x;⟨o,e⟩,fun _ _ y e=>y.at e⟩
def tSC (K:PySem.W.Frag) (wi:TI) (T:ou) (ts:Bk→TT) (te:Bk→TE) (js:List Nat):TE:=fun σ H Q=>wi σ H fun J H1=>∀D,H1 D=none→∀b,Eh K T (ts b) (Ri knd mk D (te b)) (frees js σ) J (upd H1 D (SO knd D [])) (Q (.ref D))
end
section
variable {X:Cx} {T0:Type} [DecidableEq T0] {knd:PySem.KeyKind X.prog X.w T0} {mk:T0→V} {NT NF:List Str} {js:List Nat} {elt tg iter:Expr} {ifs:List Expr} {T:ou} {wi:TI} {ts:Bk→TT} {te:Bk→TE} {scope:Scope} {pos:Pos}
theorem Ye {D:Addr} {t:TE} (hk:∀k v,RelV (mk k) v→knd.is k v=true∧v.scannable=true) (he:PE X elt t):PM X (do let v ←eval elt X.env;standAt elt.pos;let _ ←call (.builtin "set.add") [.ref D,v]) (Ri knd mk D t):=by
 intro pins s σ H Q I h;refine wpAny_bind (cX (he pins s σ H _ I h) fun v s1 aZ=>?_);obtain ⟨y,H1,I1,r1,ks,k,hD,ey,hz,q⟩:=aZ;subst ey;obtain ⟨hS,_,_⟩:=I1.hok D _ hD;obtain ⟨k1,k2⟩:=hk _ _ r1;refine wpAny_bind (wpAny_standAt (wpAny_bind (Gq k1 k2 hS hz fun h' same hS'=>?_)));refine wpAny_pure ⟨_,?_,q⟩;exact mU I1 (by rw [hD];exact True.intro) same (let ⟨o,_,_,_,e,_⟩:=hS';⟨o,e⟩) (Wa knd hS')
theorem Yg {pins:List (Addr×Obj)} {σ:St} {s2:Shared} {H2:Hp} {cl:List (Str×Addr)} {it:Addr} {fp:List Addr} {tn:Nat→Heap→Prop} {J:It} {Q:Hp→Prop} {RR:Value→Addr→Result→Shared→Prop} {E:Value→Shared→Prop}
  (hk:∀k v,RelV (mk k) v→knd.is k v=true∧v.scannable=true) (B:lZ X NT NF js scope) (tk:sG tg NT T) (hc:X.calm=true)
  (hin:∀b,Hh (X.bk (NT++NF) scope b) ifs (ts b)∧PE (X.bk (NT++NF) scope b) elt (te b))
  (q2:∀n c,cl.lookup n=some c→X.env.cells.lookup n=some c) (q3:∀y∈scope.names,y.2=.free→∃c,cl.lookup y.1=some c)
  (I2:Inv X pins σ H2 s2) (TT:Turn X.prog X.w X.K tg J fp it tn) (st2:tn 0 s2.heap) (f2:∀b∈fp,j6 X pins H2 b)
  (q:∀b,Eh X.K T (ts b) (Ri knd mk s2.heap.objs.size (te b)) (frees js σ) J (upd H2 s2.heap.objs.size (SO knd s2.heap.objs.size [])) Q)
  (hR:∀C H' s' m,Inv X pins σ H' s'→j6 X pins H' C→s'.heap.Ns C m→Q H'→RR (.ref s2.heap.objs.size) C (.ok .next) s'):
  wpAny (model X.prog X.w) X.A (newSet (.type "set")) (fun acc s₃=>wpAny (model X.prog X.w) X.A (newFunctionEnv scope X.env.globals cl [] X.env.qual none .none (some X.env)) (fun cenv s₄=>
   codeAny (model X.prog X.w) X.A (.compStart (.SetComp elt [⟨tg,iter,ifs,0⟩] scope pos) 0 (.ref it) acc { cenv with scope:=relabel scope X.env }) (RR acc cenv.locals) s₄) E s₃) E s2:=by
 refine Nj ?_;have hD:H2 s2.heap.objs.size=none:=I2.hok.fresh (Nat.le_refl _);have I3:Inv X pins σ (upd H2 s2.heap.objs.size (SO knd s2.heap.objs.size [])) { s2 with heap:=s2.heap.push (vL X.w) }:=
  I2.laid (t':=s2.toks) (fun b o e=>Heap.get?_push_of_some _ e) (Nat.le_refl _) (Wa knd (Xp (Heap.get?_push_size _ rfl)))
 have hsz:(s2.heap.push (vL X.w)).objs.size=s2.heap.objs.size + 1:=Heap.size_push ..;refine wpAny_newFunctionEnv B.cell (by intro y hy;simp at hy) (fun h₁ hns₁ hsb₁=>?_) B.kind;have Sx:∀b∈fp,b < s2.heap.objs.size:=fun b hb=>by
  obtain ⟨o,e,_⟩:=TT.obj 0 _ st2 b hb;exact Heap.lt_size e
 have f3:∀b∈fp,j6 X pins (upd H2 s2.heap.objs.size (SO knd s2.heap.objs.size [])) b:=fun b hb=>⟨by rw [aV (Nat.ne_of_lt (Sx b hb))];exact (f2 b hb).1,(f2 b hb).2⟩
 have keep:∀b o,(s2.heap.push (vL X.w)).get? b=some o→h₁.get? b=some o:=fun b o e=>hsb₁.extBut b o (Nat.ne_of_lt (Heap.lt_size e)) (Heap.get?_push_of_some _ e)
 have VJ:∀b∈fp,b < (s2.heap.push (vL X.w)).objs.size:=fun b hb=>by have:=Sx b hb;rw [hsz];exact Nat.lt_succ_of_lt this
 have I4:=I3.blk (s1:={ s2 with heap:=h₁,toks:=s2.toks + ([]:List (Str×Value)).length }) B q2 q3 f3 VJ hns₁ keep rfl I2.bare;have VL:tn 0 h₁:=TT.keep 0 _ _ st2 fun b _ o e=>keep b o (Heap.get?_push_of_some _ e)
 obtain ⟨i1,i2⟩:=hin ⟨cl,(s2.heap.push (vL X.w)).objs.size,{ s2 with heap:=s2.heap.push (vL X.w) },upd H2 s2.heap.objs.size (SO knd s2.heap.objs.size []),fp⟩;have loop:codeAny (model X.prog X.w) X.A (.compLoop (.SetComp elt [⟨tg,iter,ifs,0⟩] scope pos) 0 (.ref it) (.ref s2.heap.objs.size) (compEnvC scope cl (s2.heap.push (vL X.w)).objs.size X.env))
   (RR (.ref s2.heap.objs.size) (s2.heap.push (vL X.w)).objs.size) { s2 with heap:=h₁,toks:=s2.toks + ([]:List (Str×Value)).length }:=by
  refine wW (X:=X.blk (NT++NF) scope cl (s2.heap.push (vL X.w)).objs.size { s2 with heap:=s2.heap.push (vL X.w) } (upd H2 s2.heap.objs.size (SO knd s2.heap.objs.size [])) fp)
   (T:=T) (fs:=frees js σ) (done:=Q) rfl (Mx elt tg iter ifs scope pos _ _ _) rfl rfl rfl tk rfl B.nd hc (fun x hx=>lookup_relabel_local (B.tg x hx)) i1 (Ye (X:=X.bk (NT++NF) scope _) (knd:=knd) hk i2) TT (fun b hb=>?_) I4 VL (q _) fun H' s' σ' J' qd=>?_
  ·exact ⟨(f3 b hb).1,Nat.ne_of_lt (VJ b hb),fun hb2=>by
    rcases List.mem_cons.mp (I3.ur b hb2) with z | z
    ·exact (f3 b hb).2.1 z
    ·exact (f3 b hb).2.2.1 z,.inl hb,fun x c e=>(f3 b hb).2.2.2.2.1 x c (q2 x c e),fun p hp=>(nomatch (show p∈([]:List (Addr×Obj)) from hp))⟩
  ·obtain ⟨m,hn,_⟩:=J'.loc;exact hR _ H' s' m (I3.Ph f3 J') (I3.Av (Nat.le_refl _) J'.free) hn qd
 exact Nk loop (TT.self _ 0 _ _ _ VL loop)
theorem aab (hk:∀k v,RelV (mk k) v→knd.is k v=true∧v.scannable=true) (B:lZ X NT NF js scope) (tk:sG tg NT T) (hc:X.calm=true) (hi:PI X tg iter wi)
  (hin:∀b,Hh (X.bk (NT++NF) scope b) ifs (ts b)∧PE (X.bk (NT++NF) scope b) elt (te b))
  (hs:∀x,foldedSetIterable iter X.env x=pure x:=by intro _;rfl):PE X (.SetComp elt [⟨tg,iter,ifs,0⟩] scope pos) (tSC knd mk X.K wi T ts te js):=by
 intro pins s σ H Q I h;obtain ⟨cl,hclos,q2,q3⟩:=mV (env:=X.env) (scope:=scope) fun y hy e=>I.ok.has y.1 (B.free y hy e)
 rw [CP];refine wpAny_comprehension_free (use:=none) rfl hs hclos B.kind B.names (cX (hi pins s σ H _ I h) fun v s1 h1=>cX h1 fun itv s2 aZ=>?_);obtain ⟨it,fp,tn,J,H2,e,I2,TT,st2,f2,q⟩:=aZ;subst e;refine Yg (Q:=fun H'=>Q (.ref s2.heap.objs.size) H') (RR:=fun acc C=>compPost (model X.prog X.w) X.A X.xe none (EP X pins σ Q) acc C) hk B tk hc hin q2 q3 I2 TT st2 f2 (q _ (I2.hok.fresh (Nat.le_refl _))) fun C H' s' m I' fC hn qd=>?_
 refine ⟨m,hn,fun h' sb=>⟨.ref s2.heap.objs.size,H',?_,rfl,qd⟩⟩;exact I'.turned (t':=s'.toks) (fun b o hb e=>(sb.2 b hb).trans e) fC.1 fC.2.1 fC.2.2.2.1 fC.2.2.2.2.1 fC.2.2.2.2.2
end
def Rj {P:Program} {w:World} (t:TE):TE:=fun σ H Q=>t σ H fun x H2=>∃D ks,x=.ref D∧H2 D=some (SO (PySem.strKind P w) D ks)∧ks.length < 64∧∀(D':Addr) (ns':List Str),H2 D'=none→ns'.Perm ks→sortedS ns'=true→Q (.ref D') (upd H2 D' (.lst (ns'.map V.str)))
theorem Rk {X:Cx} {e:Expr} {t:TE} {p1 pos1:Pos} (hc:X.calm=true) (hl:PE X e t) (g1:Gl X "sorted") (m1:X.mg "sorted"=none)
  (he:starEach [e] X.env=(false,eval e X.env)::starEach [] X.env:=by rfl) (hpl:(backTo pos1 (starEach [] X.env)).any (·.1)=false:=by rfl):PE X (.Call (.Name "sorted" p1) [e] [] pos1) (Rj (P:=X.prog) (w:=X.w) t):=by
 intro pins s σ H Q I h;refine wpAny_Call_Name_kw (mQ I g1 m1 (u:=.builtin "sorted") rfl (PyProof.Rows.callWith_builtin1 ?_ he hpl));rw [he];show wpAny _ _ (spliced ((false,eval e X.env)::backTo pos1 (starEach [] X.env))) _ _ s;refine Calls.spliced_cons (cX (hl pins s σ H _ I h) fun v s1 ⟨y,H1,I1,r1,D,ks,ey,hD,h64,q⟩=>Calls.spliced_nil ?_);subst ey;cases r1;obtain ⟨⟨o,es,ep,t,ho,ex,hd,⟨ks',ek,pk⟩,hb,hf,tb⟩,_,_⟩:=I1.hok D _ hD;obtain ⟨e1,e2⟩:=Qi ek;have few:es.size < 64:=by
  rw [←Array.length_toList,ek.len,pk.length_eq];omega
 refine Ir (Ok:=fun out=>∃ns',StrsAre out ns'∧ns'.Perm ks∧sortedS ns'=true) (I1.ok.hd hc) ⟨o,ho,ex,hd,hf,tb⟩ few (fun us pm B s2 a n P E' ho' hp=>?_) fun D h' d tk c out ok ge kk gD=>?_
 ·have hS:StrsAre us (us.map strOf):=strsAre_map us fun v hv=>e2 v (pm.mem_iff.mp hv)
  refine list_sort_treeK strKind_oneLt ho' hS.keysOf (fun v1 v2 rest e=>keyKind_strs (by rw [←e];exact hS)) (by rw [pm.length_eq,List.length_map,Array.length_toList];exact few) fun st hp1 hp2=>?_
  obtain ⟨ss',b1,b2,b3⟩:=sorted_out_str hS hp1 hp2;exact hp _ ⟨ss',b1,b2.trans ((pm.map strOf).trans (by rw [e1];exact pk)),b3⟩
 ·obtain ⟨ns',a1,a2,a3⟩:=ok;have hz:ns'.length≤sizeLine:=by
   rw [a2.length_eq,sizeLine_eq];omega
  exact ⟨.ref D,_,(I1.laid (o:=.lst (ns'.map V.str)) (t':=tk) kk ge ⟨by rw [List.length_map];exact hz,out.toList,c,pX a1,by simpa [seqObj] using gD⟩).drew d,rfl,q D ns' (I1.hok.fresh ge) a2 a3⟩
def fSC (fi:FI) (T:ou) (ft:FT) (fe:FE) (js:List Nat):FE:=fun env C=>match fi env C with
 | some (its,e1,C1)=>match gH T ft fe (frB js e1) its C1 with
  | some (ys,C2)=>match tO ys with
   | some l=>some (.ow (.list l),env,C2)
   | none=>none
  | none=>none
 | none=>none
def Yh (fe:FE):En→List Str→Ce→Option (List Str×Ce):=fun env acc C=>(fe env C).bind fun q=>(imO (still q.1)).bind fun y=>(strD y).bind fun z=>bif decide (acc.length < 64) then some (acc++[z],q.2.2) else none
theorem CQ {T:ou} {ft:FT} {fe:FE} {fs:En} {C':Ce}:∀{its:List PyData} {ys acc:List Str} {C:Ce},gH T ft fe fs its C=some (ys.map .str,C')→acc.length + ys.length≤64→qJ T ft (Yh fe) fs its acc C=some (acc++ys,C')
 | [],ys,acc,C,h,_=>by
  cases ys with
  | cons _ _=>cases h
  | nil=>
  cases h;rw [List.append_nil];rfl
 | d::r,ys,acc,C,h,hl=>by
  unfold gH at h;unfold qJ;split at h
  case h_2=>cases h
  rename_i ts ht;rw [ht,Option.bind_some];split at h
  case h_3=>cases h
  ·rename_i C1 hf;rw [hf,Option.bind_some];exact CQ h hl
  ·rename_i C1 hf;rw [hf,Option.bind_some];split at h
   case h_2=>cases h
   rename_i x e2 C2 hx;split at h
   case h_2=>cases h
   rename_i y hy;split at h
   case h_2=>cases h
   rename_i zs C3 hz;cases ys with
   | nil=>cases h
   | cons w ys=>
   injection h with h
   injection h with h1 h2
   injection h1 with h1 h3
   subst h1 h2 h3;rw [List.length_cons] at hl;show (Yh fe (mO ts++fs) acc C1).bind _=_;unfold Yh;rw [hx,Option.bind_some,hy,show imO (.im (.str w))=some (.str w) from rfl,Option.bind_some,show strD (.str w)=some w from rfl,Option.bind_some,decide_eq_true (by omega),show acc++w::ys=(acc++[w])++ys by rw [List.append_assoc];rfl];exact CQ hz (by rw [List.length_append];show acc.length + 1 + _≤_;omega)
theorem U3 {P:Program} {w:World} {K:PySem.W.Frag} {fi:FI} {T:ou} {ft:FT} {fe:FE} {js:List Nat}:∀σ H Q,tE K (fSC fi T ft fe js) σ H Q→Rj (P:=P) (w:=w) (tSC (PySem.strKind P w) V.str K (tI K true fi) T (fun _=>nM K ft) (fun _=>tE K fe) js) σ H Q:=by
 rintro σ H Q ⟨Z,Θ,env,C,res,env',C',S,hf,q⟩;unfold fSC at hf;split at hf
 case h_2=>cases hf
 rename_i its e1 C1 h1;split at hf
 case h_2=>cases hf
 rename_i ys C2 h2;split at hf
 case h_2=>cases hf
 rename_i l hs;cases hf;unfold tO at hs;split at hs
 case isFalse=>cases hs
 rename_i hl;split at hs
 case h_2=>cases hs
 rename_i ns hns;cases hs;have hys:=yj hns;subst hys;rw [List.length_map] at hl;refine ⟨Z,Θ,env,C,its,e1,C1,S,h1,fun J H1 k1 f1 S1 it D hD b=>?_⟩;have vN:D∉Θ:=fun m=>(S1.cell.dom D m).ne hD
 refine xX (a0:=[]) (Ob:=fun acc Hx=>Hx D=some (SO (PySem.strKind P w) D (dedup acc))) S1 it hD aP (fun a Hx Hy kk r=>kk.keep _ _ r vN) (fun a Hx r=>⟨_,r,fun _ z=>nomatch z⟩) ?_ (CQ (acc:=[]) h2 (by rw [List.length_nil];omega)) fun H2 ki ci r=>?_
 ·intro ts acc C2 p vs H4 Q hs S4 k4 r4 hQ;obtain ⟨w,hfe,hs⟩:=cg hs;obtain ⟨yd,QS,hs⟩:=cg hs;obtain ⟨z,hz,hs⟩:=cg hs;have QS:=xM QS;have hz:=Uh hz;subst hz;cases hlt:decide (acc.length < 64) with
  | false=>rw [hlt] at hs;cases hs
  | true=>
  rw [hlt] at hs;cases hs;refine ⟨_,Θ,_,C2,w.1,w.2.1,w.2.2,S4,hfe,fun y H5 k5 f5 R5=>?_⟩;obtain ⟨S5,r5⟩:=R5.qH QS;have lt:=of_decide_eq_true hlt;have ld:=zX acc;exact ⟨dedup acc,z,k5.keep _ _ r4 vN,r5,by unfold scanBound;omega,hQ _ (Jb (Hy:=H5) hD (k4.trans k5)) (tH vN S5.cell) (by rw [Ik];exact aP)⟩
 ·have kk:=k1.trans ki;have ld:=zX ns;refine ⟨D,dedup ns,rfl,r,by omega,fun D' ns' hn p hp=>?_⟩;rw [Jg p hp];exact q _ _ (kk.trans (bY.upd hn)) (Fz.refl _) ((fV (S.go kk ci) (xK _) hn).from kk)
theorem aad {X:Cx} {NT NF:List Str} {js:List Nat} {elt tg iter:Expr} {ifs:List Expr} {T:ou} {fi:FI} {ft:FT} {fe:FE} {scope:Scope} {pos p1 pos1:Pos} (B:lZ X NT NF js scope) (tk:sG tg NT T) (hc:X.calm=true) (g1:Gl X "sorted") (m1:X.mg "sorted"=none) (hi:PI X tg iter (tI X.K true fi))
  (hin:∀b,Hh (X.bk (NT++NF) scope b) ifs (nM X.K ft)∧PE (X.bk (NT++NF) scope b) elt (tE X.K fe))
  (hs:∀x,foldedSetIterable iter X.env x=pure x:=by intro _;rfl)
  (he:starEach [.SetComp elt [⟨tg,iter,ifs,0⟩] scope pos] X.env=(false,eval (.SetComp elt [⟨tg,iter,ifs,0⟩] scope pos) X.env)::starEach [] X.env:=by rfl) (hpl:(backTo pos1 (starEach [] X.env)).any (·.1)=false:=by rfl):
  PE X (.Call (.Name "sorted" p1) [.SetComp elt [⟨tg,iter,ifs,0⟩] scope pos] [] pos1) (tE X.K (fSC fi T ft fe js)):=
 (Rk hc (aab (knd:=PySem.strKind X.prog X.w) (mk:=V.str) (fun k v r=>by obtain ⟨t,rfl⟩:=r;exact ⟨PySem.strKind_is _ _ _ _,rfl⟩) B tk hc hi hin hs) g1 m1 he hpl).weak U3
section
variable {X:Cx} {tg:Expr}
def Rm (f g:FB):FI:=fun env C=>match bCons f (bCons g bNil) env C with
 | some ([.int i,.int j],_,C1)=>if -(2 ^ 62)≤i∧i < 2 ^ 62∧-(2 ^ 62)≤j∧j < 2 ^ 62 then some (ju i (j - i).toNat,env,C1) else none
 | _=>none
theorem Nm {bb:Bool} {a b:Expr} {f g:FB} {p pos:Pos} (hg:Gl X "range") (hm:X.mg "range"=none) (ha:PA X [a,b] (Ui X.K (bCons f (bCons g bNil)))) (hs:starEach [a,b] X.env=[(false,eval a X.env),(false,eval b X.env)]:=by rfl) (hs2:starEach [b] X.env=[(false,eval b X.env)]:=by rfl):PI X tg (.Call (.Name "range" p) [a,b] [] pos) (tI X.K bb (Rm f g)):=
 (LR hg hm ha hs hs2).weak fun σ H R aZ=>by
  obtain ⟨Z,Θ,env,C,its,env',C',S,hf,q⟩:=aZ;unfold Rm at hf;split at hf
  ·rename_i i j e1 C1 h1;split at hf
   ·rename_i hj;cases hf;refine ⟨Z,Θ,env,C,[.int i,.int j],e1,C',S,h1,fun vs H1 k f S1 b1=>?_⟩;cases b1 with
    | cons b1 b2=>
     cases b2 with
     | cons b2 b3=>
      cases b3;exact ⟨i,j,by rw [show _=V.int i from b1,show _=V.int j from b2],hj,q _ H1 k (Fz.refl _) (S.go k S1.cell) (FJ i (j - i).toNat)⟩
   ·cases hf
  ·cases hf
end
theorem a_t0 {α:Type} (x:α) (r:List α):n6 (x::r) 0=some x:=j9 (j:=0) rfl
theorem a_t1 {α:Type} (a x:α) (r:List α):n6 (a::x::r) 1=some x:=j9 (j:=1) rfl
theorem a_t2 {α:Type} (a b x:α) (r:List α):n6 (a::b::x::r) 2=some x:=j9 (j:=2) rfl
theorem a_t3 {α:Type} (a b c x:α) (r:List α):n6 (a::b::c::x::r) 3=some x:=j9 (j:=3) rfl
theorem a_t4 {α:Type} (a b c d x:α) (r:List α):n6 (a::b::c::d::x::r) 4=some x:=j9 (j:=4) rfl
theorem a_t5 {α:Type} (a b c d e x:α) (r:List α):n6 (a::b::c::d::e::x::r) 5=some x:=j9 (j:=5) rfl
theorem a_t6 {α:Type} (a b c d e f x:α) (r:List α):n6 (a::b::c::d::e::f::x::r) 6=some x:=j9 (j:=6) rfl
theorem e_bin (op:PyData→PyData→Option Vl) (fa fb:FB) (env:En) (C:Ce):aH op fa fb env C=(fa env C).bind fun p=>(fb p.2.1 p.2.2).bind fun q=>(op p.1 q.1).bind fun r=>some (r,rst r env q.2.1,q.2.2):=by
 unfold aH;rcases h:fa env C with _ | ⟨x,e1,C1⟩
 ·rfl
 ·rcases h2:fb e1 C1 with _ | ⟨y,e2,C2⟩
  ·simp only [Option.bind_some,h2];rfl
  ·simp only [Option.bind_some,h2];cases op x y <;> rfl
theorem e_dat (f:FE) (env:En) (C:Ce):aq f env C=(f env C).bind fun p=>(dat p.1).map fun d=>(d,p.2.1,p.2.2):=by
 unfold aq;rcases h:f env C with _ | ⟨x,e1,C1⟩ <;> rfl
theorem e_bv (i:Nat) (env:En) (C:Ce):aG i env C=(env[i]?).bind fun o=>o.bind fun x=>(dat x).map fun d=>(d,env,C):=by
 unfold aG;rcases env[i]? with _ | (_ | x) <;> rfl
theorem e_and (f g:FT) (env:En) (C:Ce):ie f g env C=(f env C).bind fun p=>if p.1 then g env p.2 else some (false,p.2):=by
 unfold ie;rcases h:f env C with _ | ⟨_ | _,D⟩ <;> rfl
theorem e_or (f g:FT) (env:En) (C:Ce):zy f g env C=(f env C).bind fun p=>if p.1 then some (true,p.2) else g env p.2:=by
 unfold zy;rcases h:f env C with _ | ⟨_ | _,D⟩ <;> rfl
theorem e_not (f:FT) (env:En) (C:Ce):vp f env C=(f env C).map fun p=>(!p.1,p.2):=by
 unfold vp;rcases h:f env C with _ | ⟨b,D⟩ <;> rfl
theorem e_if (c:FT) (f g:FS) (env:En) (C:Ce):jr c f g env C=(c env C).bind fun p=>if p.1 then f env p.2 else g env p.2:=by
 unfold jr;rcases h:c env C with _ | ⟨_ | _,D⟩ <;> rfl
theorem e_ifv (c:FT) (f g:FE) (env:En) (C:Ce):BP c f g env C=(c env C).bind fun p=>if p.1 then f env p.2 else g env p.2:=by
 unfold BP;rcases h:c env C with _ | ⟨_ | _,D⟩ <;> rfl
theorem Wb (op op':PyData→PyData→Option Vl) (fa fb fc:FB) {env e1 e2 e3:En} {C C1 C2:Ce} {x y z:PyData} {a b:Bool} (h1:fa env C=some (x,e1,C1)) (h2:fb e1 C1=some (y,e2,C2)) (h3:op x y=some (.im (.bool a))) (h4:fc e2 C2=some (z,e3,C2)) (h5:op' y z=some (.im (.bool b))):Ff op op' fa fb fc env C=some (.im (.bool (a&&b)),env,C2):=by
 unfold Ff;simp only [h1,h2,h3];cases a with
 | false=>rfl
 | true=>simp only [h4,h5];rfl
theorem r_ow (d:PyData) (e f:En):rst (.ow d) e f=f:=rfl
theorem r_bool (b:Bool) (e f:En):rst (.im (.bool b)) e f=e:=rfl
theorem r_int (i:Int) (e f:En):rst (.im (.int i)) e f=e:=rfl
theorem r_str (z:Str) (e f:En):rst (.im (.str z)) e f=e:=rfl
theorem r_tl (l r:List PyData) (e f:En):rst (.im (.tuple (.list l::r))) e f=f:=rfl
theorem add_int (i j:Int):aY (.int i) (.int j)=some (.im (.int (i + j))):=rfl
theorem sub_int (i j:Int):vm (.int i) (.int j)=some (.im (.int (i - j))):=rfl
theorem le_int (i j:Int):uH (.int i) (.int j)=some (.im (.bool (decide (i≤j)))):=rfl
theorem lt_int (i j:Int):By (.int i) (.int j)=some (.im (.bool (decide (i < j)))):=rfl
theorem ge_int (i j:Int):Uk (.int i) (.int j)=some (.im (.bool (decide (j≤i)))):=rfl
theorem gt_int (i j:Int):BJ (.int i) (.int j)=some (.im (.bool (decide (j < i)))):=rfl
theorem eq_int (i j:Int):mZ (.int i) (.int j)=some (.im (.bool (i==j))):=rfl
theorem eq_bool (a b:Bool):mZ (.bool a) (.bool b)=some (.im (.bool (a==b))):=rfl
theorem ne_bool (a b:Bool):uG (.bool a) (.bool b)=some (.im (.bool (!(a==b)))):=rfl
theorem ne_int (i j:Int):uG (.int i) (.int j)=some (.im (.bool (!(i==j)))):=rfl
theorem len_l (ds:List PyData):gJ [.list ds]=some (.im (.int ds.length)):=rfl
theorem len_t (ds:List PyData):gJ [.tuple ds]=some (.im (.int ds.length)):=rfl
theorem ix_t (ds:List PyData) (i:Int):bH (.tuple ds) (.int i)=(n6 ds i).map .im:=rfl
theorem ix_l (ds:List PyData) (i:Int):bH (.list ds) (.int i)=(n6 ds i).map .im:=rfl
theorem add_l {xs ys:List PyData} (h:xs.length + ys.length≤1000000):aY (.list xs) (.list ys)=some (.ow (.list (xs++ys))):=if_pos h
theorem K5 {xs ys:List PyData} (h:xs.length + ys.length≤1000000):aY (.tuple xs) (.tuple ys)=some (.im (.tuple (xs++ys))):=by
 unfold aY;cases xs with
 | nil=>rfl
 | cons x xs=>exact if_pos h
theorem qO {ds:List PyData} {i:Nat} {d:PyData} (h:ds[i]?=some d):bH (.tuple ds) (.int i)=some (.im d):=by
 simp only [bH,Uo,j9 h,Option.map_some]
theorem h_ix0 (h:fH):bH (dB h) (.int 0)=some (.im (.tuple (h.ps.map qN))):=qO (i:=0) rfl
theorem h_ix1 (h:fH):bH (dB h) (.int 1)=some (.im (.tuple (h.vD.map qM))):=qO (i:=1) rfl
theorem h_ix2 (h:fH):bH (dB h) (.int 2)=some (.im (.tuple (h.leaves.map bK))):=qO (i:=2) rfl
theorem h_ix3 (h:fH):bH (dB h) (.int 3)=some (.im (.tuple (h.rules.map Gj))):=qO (i:=3) rfl
theorem k_ix0 (r:pA):bH (qM r) (.int 0)=some (.im (.int r.1)):=qO (i:=0) rfl
theorem k_ix1 (r:pA):bH (qM r) (.int 1)=some (.im (.str r.2.1)):=qO (i:=1) rfl
theorem k_ix2 (r:pA):bH (qM r) (.int 2)=some (.im (.int r.2.2.1)):=qO (i:=2) rfl
theorem k_ix3 (r:pA):bH (qM r) (.int 3)=some (.im (.str r.2.2.2.1)):=qO (i:=3) rfl
theorem k_ix4 (r:pA):bH (qM r) (.int 4)=some (.im (.int r.2.2.2.2.1)):=qO (i:=4) rfl
theorem k_ix5 (r:pA):bH (qM r) (.int 5)=some (.im (.int r.2.2.2.2.2)):=qO (i:=5) rfl
theorem Gr {α:Type} {m:Int} (h0:-1000000≤m) (h1:m≤1000000) (a b:α):(if -(2 ^ 62)≤m∧m < 2 ^ 62 then a else b)=a:=if_pos (by omega)
theorem cD {k n:Nat} {body:FS} {xs:List Vl} {C C1:Ce} {r:Vl} (en:En) (hk:xs.length=k) (he:xs.map some++List.replicate (n - xs.length) none=en) (h:(body en C).map (fun p=>(p.1,p.2.2))=some (.rt r,C1)) (hr:z9 C.length r=true) (hC:C1.length=C.length):fN k n body xs C=some (r,C1):=by
 unfold fN;rw [if_pos hk,he];cases hb:body en C with
 | none=>rw [hb] at h;cases h
 | some p=>
  rw [hb] at h;obtain ⟨fl,e1,C2⟩:=p;have h:(fl,C2)=(Fl.rt r,C1):=Option.some.inj h;injection h with h1 h2
  subst h1 h2;simp only [hr,if_true,Gg hC]
theorem letters (k:Int) (h0:0≤k) (h1:k < 26):Uo (.str abc) (.int k)=some (.str ⟨#[97 + k.toNat]⟩):=by
 have e:=X7 h0 h1;have hl:abc.length≤LIM:=by decide +kernel
 simp only [Uo];rw [if_pos hl,e];rfl
theorem jT:∀zs:List Str,strsOf (zs.map PyData.str)=some zs
 | []=>rfl
 | z::zs=>by
  show (match strsOf (zs.map PyData.str) with | some t=>some (z::t) | none=>none)=_;rw [jT zs]
theorem noLs_strs:∀zs:List Str,fY (zs.map PyData.str)=true
 | []=>rfl
 | z::zs=>by
  show (true&&fY (zs.map PyData.str))=true;rw [noLs_strs zs];rfl
theorem rH:∀cs:List Nat,fY (cs.map fun c=>PyData.str ⟨#[c]⟩)=true
 | []=>rfl
 | c::cs=>by
  show (true&&fY (cs.map fun c=>PyData.str ⟨#[c]⟩))=true;rw [rH cs];rfl
theorem tW:∀cs:List Nat,strsOf (cs.map fun c=>PyData.str ⟨#[c]⟩)=some (cs.map fun c=>(⟨#[c]⟩:Str))
 | []=>rfl
 | c::cs=>by
  show (match strsOf (cs.map fun c=>PyData.str ⟨#[c]⟩) with | some t=>some (_::t) | none=>none)=_;rw [tW cs];rfl
theorem Np:(Str.ofString "").length=0:=by decide +kernel
theorem ne_nil (zs:List Str) (hz:∀z∈zs,nameB z=true):uG (.list (zs.map .str)) (.list [])=some (.im (.bool (!zs.isEmpty))):=by
 have s1:PySem.SeqAt.shaped (.list (zs.map PyData.str))=true:=Gk fun z m=>yr (hz z m)
 have n1:Qk (.list (zs.map PyData.str))=true:=(yt fun z m=>yr (hz z m)).2.2;have e:Xu (.list (zs.map .str)) (.list [])=some zs.isEmpty:=by
  show (if Qk (.list (zs.map PyData.str))&&Qk (.list [])&&(PySem.SeqAt.shaped (.list (zs.map PyData.str))&&PySem.SeqAt.shaped (.list [])) then some (PyData.eqv (.list (zs.map .str)) (.list [])) else none)=_;rw [n1,s1];cases zs <;> rfl
 simp only [uG,e,Option.map_some]
abbrev hEn (b:Nat) (zs:List Str) (ps:List (Str×Str)) (own:List Str) (rk:List pA) (lv:List bz) (ru:List (PyData×PyData)) (v7 v8 v9 v10 v11 gb rO qP rP v16 v17 v18:Option Vl):En:=
 [some (.ce b),some (.im (.list (zs.map .str))),some (.ow (.list (ps.map qN))),some (.ow (.list (own.map .str))),some (.ow (.list (rk.map qM))),some (.ow (.list (lv.map bK))),some (.ow (.dict ru)),v7,v8,v9,v10,v11,gb,rO,qP,rP,v16,v17,v18]
theorem rst_same (r:Vl) (e:En):rst r e e=e:=by
 cases r <;> simp [rst]
theorem U4 {ns:List Int} {i:Nat} {d:PyData} (h:(ns.map PyData.int)[i]?=some d):∃x,d=.int x∧ns[i]?=some x∧x∈ns∧i < ns.length:=by
 rw [List.getElem?_map] at h;cases hx:ns[i]? with
 | none=>rw [hx] at h;cases h
 | some x=>
  rw [hx] at h;exact ⟨x,(Option.some.inj h).symm,rfl,List.mem_of_getElem? hx,(List.getElem?_eq_some_iff.mp hx).1⟩
theorem take_snoc {ns:List Int} {i:Nat} {x:Int} (h:ns[i]?=some x):ns.take (i + 1)=ns.take i++[x]:=by
 rw [List.take_add_one,h];rfl
theorem Ag:∀ss:List Gi,fY (ss.map KZ)=true
 | []=>rfl
 | s::ss=>by
  show (true&&fY (ss.map KZ))=true;rw [Ag ss];rfl
theorem Ah:∀rs:List KY,fY (rs.map Gj)=true
 | []=>rfl
 | r::rs=>by
  show ((true&&(true&&(fY (r.2.2.map KZ)&&true)))&&fY (rs.map Gj))=true;rw [Ah rs,Ag];rfl
theorem Wc {k n:Nat} {body:FS} {xs:List Vl} {en e1:En} {C C1:Ce} {r:Vl} (hk:xs.length=k) (he:xs.map some++List.replicate (n - xs.length) none=en) (h:body en C=some (.rt r,e1,C1)) (hr:z9 C.length r=true) (hC:C1.length=C.length):fN k n body xs C=some (r,C1):=by
 unfold fN;rw [if_pos hk,he,h];simp only [hr,if_true,Gg hC]
theorem uR:∀zs:List Str,(zs.map PyData.str).all fL=true
 | []=>rfl
 | z::zs=>by
  rw [List.map_cons,List.all_cons,uR zs];rfl
theorem in_strs (z:Str) (zs:List Str):j8 (.str z) (.list (zs.map .str))=some (.im (.bool (decide (z∈zs)))):=by
 have:inB (.str z) (.list (zs.map .str))=some (inD (.str z) (zs.map .str)):=if_pos (by rw [uR];rfl);unfold j8;rw [this,tU];rfl
theorem eq_strs (x z:Str):mZ (.str x) (.str z)=some (.im (.bool (decide (x=z)))):=by
 have:(x==z)=decide (x=z):=by rw [Bool.eq_iff_iff];simp
 show some (Vl.im (.bool (x==z)))=_;rw [this]
theorem ne_strs (x z:Str):uG (.str x) (.str z)=some (.im (.bool (!decide (x=z)))):=by
 have:(x==z)=decide (x=z):=by rw [Bool.eq_iff_iff];simp
 show some (Vl.im (.bool (!(x==z))))=_;rw [this]
def bG (q:List (Str×Str)):List (Str×PyData):=q.map fun p=>(p.1,.str p.2)
theorem Gs:∀q,Jh (cI (bG q))=true
 | []=>rfl
 | x::q=>by
  show (true&&Jh (cI (bG q)))=true;rw [Gs q];rfl
theorem tX (q:List (Str×Str)) (z:Str):nP (cI (bG q)) (.str z)=some ((dz q z).map .str):=by
 rw [Af];unfold bG dz;rw [Rh,Option.map_map];rfl
theorem noLs_ints:∀l:List Int,fY (l.map PyData.int)=true
 | []=>rfl
 | x::l=>by
  show (true&&fY (l.map PyData.int))=true;rw [noLs_ints l];rfl
theorem Jm:∀(n:Nat),FQ [.list (List.replicate n (.bool true))]=some (.im (.bool true))∧fY (List.replicate n (.bool true))=true:=by
 intro n;have h:boolsOf (List.replicate n (.bool true))=some (List.replicate n true)∧fY (List.replicate n (.bool true))=true:=by
  induction n with
  | zero=>exact ⟨rfl,rfl⟩
  | succ n ih=>
   rw [List.replicate_succ,List.replicate_succ];refine ⟨?_,?_⟩
   ·unfold boolsOf;rw [ih.1]
   ·show (true&&fY (List.replicate n (.bool true)))=true;rw [ih.2];rfl
 refine ⟨?_,h.2⟩;unfold FQ;simp only [h.1,Option.map_some];congr 3;rw [List.all_eq_true];intro b hb;exact (List.mem_replicate.mp hb).2
theorem dN {zs:List Str} {k:Int} (h0:0≤k) (h1:k < zs.length):∃z,z∈zs∧zs[k.toNat]?=some z∧n6 (zs.map PyData.str) k=some (.str z):=by
 obtain ⟨x,e1,e2⟩:=Rf (xs:=zs.map PyData.str) h0 (by rw [List.length_map];exact h1);rw [List.getElem?_map] at e2;cases hz:zs[k.toNat]? with
 | none=>rw [hz] at e2;cases e2
 | some z=>
  rw [hz] at e2;cases e2;exact ⟨z,List.mem_of_getElem? hz,rfl,e1⟩
theorem Yi {α:Type} {f:α→PyData} {l:List α} {i:Nat} {d:PyData} (h:(l.map f)[i]?=some d):∃x,l[i]?=some x∧d=f x:=by
 rw [List.getElem?_map] at h;cases hx:l[i]? with
 | none=>rw [hx] at h;cases h
 | some x=>rw [hx] at h;exact ⟨x,rfl,(Option.some.inj h).symm⟩
def Bf (L:Nat) (C:Ce) (b k:Nat):Prop:=C.length=L∧∃x y z:Int,C[b]?=some [x,y,z]∧0≤x∧0≤y∧y≤3000000000∧0≤z∧z + k≤900000
theorem Bf.mono {L:Nat} {C:Ce} {b k j:Nat} (h:Bf L C b k) (hj:j≤k):Bf L C b j:=by
 obtain ⟨l,x,y,z,h1,h2,h3,h4,h5,h6⟩:=h;exact ⟨l,x,y,z,h1,h2,h3,h4,h5,by omega⟩
theorem Bf.dec {L:Nat} {C:Ce} {b k:Nat} (h:Bf L C b (k + 1)):Bf L C b k:=h.mono (Nat.le_succ k)
theorem Bf.eq {L:Nat} {C C':Ce} {b b' k k':Nat} (h:Bf L C b k) (h':Bf L C' b' k'):C'.length=C.length:=h'.1.trans h.1.symm
inductive HE (b:Nat) (zs:List Str) (ps:List (Str×Str)) (own:List Str) (rk:List pA) (lv:List bz) (ru:List (PyData×PyData)):En→Prop
 | mk (v7 v8 v9 v10 v11 gb rO qP rP v16 v17 v18:Option Vl):HE b zs ps own rk lv ru (hEn b zs ps own rk lv ru v7 v8 v9 v10 v11 gb rO qP rP v16 v17 v18)
theorem K6 (a c:Nat) {n i:Nat} (h:i < n):a + c * (n - i)=a + c * (n - (i + 1)) + c:=by
 rw [show n - i=(n - (i + 1)) + 1 by omega,Nat.mul_add,Nat.mul_one,Nat.add_assoc]
theorem Yj (a:Nat) {n i:Nat} (h:i < n):a + (n - i)=a + (n - (i + 1)) + 1:=by omega
section
variable {prog:Program} {w:World} {A:Around} {E:Value→Shared→Prop} {s:Shared}
end
section
variable {prog:Program} {w:World} {A:Around} {E:Value→Shared→Prop} {s:Shared} {z TI TO i1 i2 l1 l2:Addr} {f1 f2:List Addr} {n:Nat} {P1 P2:Nat→Value→Prop} {S1 S2:Nat→Heap→Prop}
end
def CT:PyData→PyData→Option Vl
 | .list xs,.int n=>if 0≤n∧n≤1000∧xs.length≤1000 then some (.ow (.list (List.replicate n.toNat xs).flatten)) else none
 | a,b=>eN a b
def Wd:R2:=fun x y H Q=>(rI Ov fun i j=>.int (i * j)) x y H Q∨Zv x y H Q
theorem U5 {X:Cx}:g8 X (binaryOp .Mult) Wd:=iu.or Xc
theorem K7 {H:Hp} {ds:List PyData} {vs:List V} (h:gn H ds vs):∀n,gn H (List.replicate n ds).flatten (List.replicate n vs).flatten
 | 0=>rfl
 | n + 1=>by
  rw [List.replicate_succ,List.replicate_succ,List.flatten_cons,List.flatten_cons];exact mY h (K7 h n)
theorem U6 {K:PySem.W.Frag}:oU K Wd CT:=by
 intro Z Θ env C σ H x y dx dy res S bx j4 e Q q;unfold CT at e;split at e
 ·rename_i xs n;split at e
  case isFalse=>cases e
  rename_i hn;cases e;obtain ⟨a,vs,rfl,ha,r1⟩:=bx.lst;cases j4.int;have l1:=bW r1;refine .inr ⟨a,n,vs,rfl,rfl,ha,by omega,by omega,?_,fun p hp=>q _ _ (bY.upd hp) (fV S (K7 r1 _) hp)⟩;rw [sizeLine_eq,l1];have:xs.length * n.toNat≤1000 * 1000:=Nat.mul_le_mul hn.2.2 (by omega);omega
 ·exact .inl (iG Z Θ env C σ H x y dx dy res S bx j4 e Q q)
section
variable {X:Cx}
end
def K8 (fk:FB) (fv:FE):FE:=fun env C=>match fk env C with
 | some (dk,e1,C1)=>match fv e1 C1 with
  | some (r,e2,C2)=>match c7 dk with
   | some _=>match still r with
    | .im d=>some (.ow (.dict [(dk,d)]),e2,C2)
    | _=>none
   | none=>none
  | none=>none
 | none=>none
theorem Rn {X:Cx} {k v:Expr} {pos:Pos} {fk:FB} {fv:FE} (hk:PE X k (mL X.K fk)) (hv:PE X v (tE X.K fv)):PE X (.Dict [some k] [v] pos) (tE X.K (K8 fk fv)):=
 (TF (Pb hk hv Tz) rfl rfl (fun z=>nomatch z) (Nat.le_of_ble_eq_true rfl)).weak fun σ H Q aZ=>by
 obtain ⟨Z,Θ,env,C,r,env',C',S,hf,q⟩:=aZ;unfold K8 at hf;split at hf
 case h_2=>cases hf
 rename_i dk e1 C1 h1;split at hf
 case h_2=>cases hf
 rename_i rv e2 C2 h2;split at hf
 case h_2=>cases hf
 rename_i kk hkk;split at hf
 case h_2=>cases hf
 rename_i d hs;cases hf;intro p hp;refine ⟨p::Z,Θ,env,C,dk,e1,C1,S.push hp _ (fun _ z=>nomatch z),h1,fun x H1 k1 f1 S1 bx=>?_⟩;refine ⟨p::Z,Θ,e1,C1,rv,env',C',S1,h2,fun y H2 k2 f2 r2=>?_⟩;have R:=r2.still;rw [hs] at R;obtain ⟨S2,rz⟩:=R;have ex:x=kV kk:=by
  cases dk <;> first | (cases hkk;exact bx) | cases hkk
 have PB:bY Θ H H2:=((bY.upd hp).trans k1).trans k2;have np:p∉Θ:=fun m=>by
  have:=(List.nodup_cons.mp S2.nd).1;exact this (List.mem_append_right _ (List.mem_append_left _ m))
 have e2p:H2 p=some (.dK []):=(k1.trans k2).keep _ _ aP np;refine ⟨e2p,[(kk,y)],by rw [ex];rfl,Nat.le_of_ble_eq_true rfl,?_⟩;have kf:bY Θ H (upd H2 p (.dK [(kk,y)])):=⟨fun a o ha na=>by
  rw [aV (cJ ha hp)];exact PB.keep _ _ ha na,fun a ha=>by
  by_cases z:a=p
  ·exact absurd (z ▸ hp) ha
  ·rw [aV z];exact PB.2 a ha⟩
 have c2:gB Θ C' (upd H2 p (.dK [(kk,y)])):=⟨S2.cell.len,fun n b ns h3 h4=>by
  have:=S2.cell.at_ n b ns h3 h4;rw [aV (show b≠p from fun z=>np (by rw [←z];exact List.mem_of_getElem? h3))];exact this⟩
 refine q _ _ kf (f1.trans f2) ⟨p,rfl,hp,(S.fz (f1.trans f2)).xU hp kf ⟨_,aP,fun _ z=>nomatch z⟩ c2,[y],.inl ⟨[kk],?_,aP⟩,y,[],rfl,?_,rfl⟩
 ·unfold cM;rw [hkk];rfl
 ·refine rz.same fun a u e=>?_
  unfold er at e ⊢;split at e
  ·cases e
  ·rename_i n;rw [if_neg n,aV (show a≠p from fun z=>n (by rw [z];exact List.mem_cons_self))];exact e
def U7 (i:Nat) (f:FB):FS:=fun env C=>if jO env[i]? then match f env C with
  | some (.list ys,e1,C1)=>match e1[i]? with
   | some (some (.ow (.list ds)))=>if ds.length + ys.length≤LIM then some (.nx,e1.set i (some (.ow (.list (ds++ys)))),C1) else none
   | _=>none
  | _=>none
 else none
theorem Yk {X:Cx} {pos:Pos} {i:Nat} {o e:Expr} {f:FB} {apos cpos:Pos} (ho:PE X o (wF i)) (he:PE X e (mL X.K f))
  (hs0:swapsWith (.Call (.Attribute o "extend" apos) [e] [] cpos) none pos.line X.env=pure false:=by rfl)
  (hbase:attributeBase o "extend" X.env (eval o X.env)=eval o X.env:=by rfl)
  (hfew:((backTo cpos (starEach [e] X.env)).all (fun x=>!x.1)&&(backToKw cpos (keywordEach [] X.env)).all (fun x=>x.1.isSome)
   &&decide (([e]:List Expr).length + ([]:List Keyword).length + (if ([]:List Keyword).isEmpty then 0 else 1) < 30))=true:=by rfl)
  (hline:(apos.endLine==cpos.line)=true:=by rfl) (hs:starEach [e] X.env=(false,eval e X.env)::starEach [] X.env:=by rfl) (hplain:(backTo cpos (starEach [] X.env)).any (·.1)=false:=by rfl):
  PS X (.Expr (.Call (.Attribute o "extend" apos) [e] [] cpos) pos) (tS X.K (U7 i f)):=
 (JR (O8 PySem.F.plainAttrs_list PySem.F.slot_list_extend PySem.F.type_list_extend (VB.r Mr) ho (dZ he jH hs) hbase hfew hline hs hplain) hs0).weak fun D σ H aZ=>by
  obtain ⟨Z,Θ,env,C,fl,env',C',S,hf,q⟩:=aZ;unfold U7 at hf;split at hf
  ·rename_i h0;obtain ⟨ds0,h0⟩:=Fp h0;obtain ⟨v0,V5,a,rfl,vs0,ha0,r0⟩:=S.slot i _ h0;split at hf
   ·rename_i ys e1 C1 h1;split at hf
    ·rename_i ds hi;split at hf
     ·rename_i hl;cases hf;refine ⟨_,V5,.inl ⟨rfl,vs0,di.of ha0⟩,Z,Θ,env,C,.list ys,e1,C',S,h1,fun v H1 k f S1 bo=>?_⟩;obtain ⟨b,ws,rfl,hb,r1⟩:=bo;obtain ⟨v1,ev1,a1,ea1,vs,ha1,r2⟩:=S1.slot i _ hi;subst ea1;rw [V5] at ev1;cases ev1;refine ⟨a,b,vs,ws,rfl,rfl,ha1,bZ hb,by rw [bW r2,bW r1,sizeLine_eq];unfold LIM at hl;omega,?_⟩;have w:lV X.K Z Θ e1 σ H1 Θ (e1.set i (some (.ow (.list (ds++ys))))) C' σ (upd H1 a (.lst (vs++ws))):=S1.write hi V5 ⟨_,aP,mY r2 r1⟩;exact q Θ σ _ ((lV.Qy k f S1).trans w)
     ·cases hf
    ·cases hf
   ·cases hf
  ·cases hf
section
variable {prog:Program} {w:World} {A:Around} {E:Value→Shared→Prop} {s:Shared} {R:Result→Shared→Prop} {I S:Addr} {fp wr:List Addr} {n:Nat} {Pv:Nat→Value→Prop} {St:Nat→Heap→Prop} {bt:Nat→Nat→Bool} {HK:Heap→Prop}
theorem U8 (W:Walks prog w A.in1 I fp wr n Pv St) (cmp:∀(i j:Nat) (vi vj:Value) (s:Shared) (Q:Value→Shared→Prop) (E:Value→Shared→Prop),HK s.heap→Pv i vi→Pv j vj→Q (.bool (bt i j)) s→wpAny (model prog w) A.in1 (richCompare .Lt vi vj) Q E s)
  (hk:∀h h',HK h→(∀b o,b∉wr→b≠S→h.get? b=some o→h'.get? b=some o)→HK h') (out:S∉fp):∀(m j:Nat) (s:Shared) (vb:Value) (c:Nat),n - (j + 1)=m→j + 1≤n→St (j + 1) s.heap→HK s.heap→Pv (argBest bt j) vb→s.heap.get? S=some (ZR vb c)→
  (∀v h' tk,Pv (argBest bt (n - 1)) v→(∀b o,b∉wr→b≠S→s.heap.get? b=some o→h'.get? b=some o)→R (.ok (.ret v)) { s with heap:=h',toks:=tk })→codeAny (model prog w) A (.builtin "min.loop" ⟨[.ref I,.none,.ref S],[]⟩) R s:=by
 have U9:S∉wr:=fun z=>out (W.sub _ z)
 have nm:(toString "min"++toString ".loop":String)="min.loop":=by decide
 intro m;induction m with
 | zero=>
  intro j s vb c hm hj st kp pb hS hR;have last:j + 1=n:=by omega
  refine codeAny_builtin PySem.F.entry_min_loop ?_;rw [Around.under_plainId PySem.F.plain_min_loop _];show wpAny _ A.in1 (seqItems? (.ref S) >>= _) _ _ s;refine wpAny_bind (wpAny_seqItems hS rfl ?_);show wpAny _ A.in1 (tryCatch (pyNext (.ref I)) _ >>= _) _ _ s;refine wpAny_bind (wpAny_tryCatch (W.done s _ _ (last ▸ st) fun h' tk kk=>?_));have g:=kk S _ U9 hS;show wpAny _ A.in1 (updateSeq S (fun _=>#[]) >>= _) _ _ _;refine wpAny_bind (wpAny_updateSeq g rfl (wpAny_bind (wpAny_letGo (wpAny_pure ?_))));exact hR vb _ tk (by rw [←last];exact pb) fun b o hb hbS e=>(Heap.get?_update_other _ _ (Ne.symm hbS)).trans (kk b o hb e)
 | succ m ih=>
  intro j s vb c hm hj st kp pb hS hR;have lt:j + 1 < n:=by omega
  refine codeAny_builtin PySem.F.entry_min_loop ?_;rw [Around.under_plainId PySem.F.plain_min_loop _];show wpAny _ A.in1 (seqItems? (.ref S) >>= _) _ _ s;refine wpAny_bind (wpAny_seqItems hS rfl ?_);show wpAny _ A.in1 (tryCatch (pyNext (.ref I)) _ >>= _) _ _ s;refine wpAny_bind (wpAny_tryCatch (W.item (j + 1) s _ _ lt st fun v h' tk pv st' kk=>?_));have g:=kk S _ U9 hS;have kp':HK h':=hk _ _ kp fun b o hb _ e=>kk b o hb e
  show wpAny _ A.in1 (tryCatch (holding [v,v] (richCompare .Lt v vb >>= _)) _ >>= _) _ _ _;refine wpAny_bind (wpAny_tryCatch (wpAny_holding (wpAny_bind (cmp (j + 1) (argBest bt j) v vb _ _ _ kp' pv pb ?_))));refine wpAny_bind (wpAny_holding (wpAny_truthy_bool (wpAny_bind (wpAny_letGo (wpAny_pure ?_)))));cases hb:bt (j + 1) (argBest bt j) with
  | true=>
   simp only [if_true];refine wpAny_bind (wpAny_updateSeq g rfl (wpAny_bind (wpAny_letGo ?_)));rw [nm];refine wpAny_pure ⟨plainId_quiet PySem.F.plain_min_loop _,ih (j + 1) _ v _ (by omega) lt (W.frame _ _ _ st' fun b hbf o e=>(Heap.get?_update_other _ _ fun z:S=b=>out (z ▸ hbf)).trans e) (hk _ _ kp' fun b o _ hbS e=>(Heap.get?_update_other _ _ (Ne.symm hbS)).trans e) (by simp only [argBest,hb,if_true];exact pv) (Heap.get?_update_self _ g rfl) fun v' h2 tk2 pv' PB=>?_⟩;exact hR v' h2 tk2 pv' fun b o hb' hbS e=>PB b o hb' hbS ((Heap.get?_update_other _ _ (Ne.symm hbS)).trans (kk b o hb' e))
  | false=>
   simp only [Bool.false_eq_true,if_false];refine wpAny_bind (wpAny_letGo ?_);rw [nm];refine wpAny_pure ⟨plainId_quiet PySem.F.plain_min_loop _,ih (j + 1) _ vb c (by omega) lt st' kp' (by simp only [argBest,hb,Bool.false_eq_true,if_false];exact pb) g fun v' h2 tk2 pv' PB=>?_⟩;exact hR v' h2 tk2 pv' fun b o hb' hbS e=>PB b o hb' hbS (kk b o hb' e)
theorem Va (W:Walks prog w A.in1 I fp wr n Pv St) (cmp:∀(i j:Nat) (vi vj:Value) (s:Shared) (Q:Value→Shared→Prop) (E:Value→Shared→Prop),HK s.heap→Pv i vi→Pv j vj→Q (.bool (bt i j)) s→wpAny (model prog w) A.in1 (richCompare .Lt vi vj) Q E s)
  (hk:∀h h',HK h→(∀b o,b∉wr→b≠S→h.get? b=some o→h'.get? b=some o)→HK h') (out:S∉fp) (pos:0 < n) {c:Nat} (st:St 0 s.heap) (kp:HK s.heap) (hS:s.heap.get? S=some { cls:=.type "list",dict:=none,data:=.seq #[] c,slots:=#[] })
  (hR:∀v h' tk,Pv (argBest bt (n - 1)) v→(∀b o,b∉wr→b≠S→s.heap.get? b=some o→h'.get? b=some o)→R (.ok (.ret v)) { s with heap:=h',toks:=tk }):codeAny (model prog w) A (.builtin "min.loop" ⟨[.ref I,.none,.ref S],[]⟩) R s:=by
 have U9:S∉wr:=fun z=>out (W.sub _ z)
 have nm:(toString "min"++toString ".loop":String)="min.loop":=by decide
 refine codeAny_builtin PySem.F.entry_min_loop ?_;rw [Around.under_plainId PySem.F.plain_min_loop _];show wpAny _ A.in1 (seqItems? (.ref S) >>= _) _ _ s;refine wpAny_bind (wpAny_seqItems hS rfl ?_);show wpAny _ A.in1 (tryCatch (pyNext (.ref I)) _ >>= _) _ _ s;refine wpAny_bind (wpAny_tryCatch (W.item 0 s _ _ pos st fun v h' tk pv st' kk=>?_));have g:=kk S _ U9 hS;have kp':HK h':=hk _ _ kp fun b o hb _ e=>kk b o hb e
 show wpAny _ A.in1 (updateSeq S (fun _=>#[v,v]) >>= _) _ _ _;refine wpAny_bind (wpAny_updateSeq g rfl ?_);rw [nm];refine wpAny_pure ⟨plainId_quiet PySem.F.plain_min_loop _,U8 W cmp hk out _ 0 _ v _ rfl pos (W.frame _ _ _ st' fun b hbf o e=>(Heap.get?_update_other _ _ fun z:S=b=>out (z ▸ hbf)).trans e) (hk _ _ kp' fun b o _ hbS e=>(Heap.get?_update_other _ _ (Ne.symm hbS)).trans e) pv (Heap.get?_update_self _ g rfl) fun v' h2 tk2 pv' PB=>?_⟩;exact hR v' h2 tk2 pv' fun b o hb' hbS e=>PB b o hb' hbS ((Heap.get?_update_other _ _ (Ne.symm hbS)).trans (kk b o hb' e))
theorem Vb {l:Addr} {items:Array Value} {Q:Value→Shared→Prop} (hh:A.handled=none) (hl:s.heap.IsList l items) (pos:0 < items.size)
  (cmp:∀(i j:Nat) (vi vj:Value) (s':Shared) (Q:Value→Shared→Prop) (E:Value→Shared→Prop),(∀b o,s.heap.get? b=some o→s'.heap.get? b=some o)→items[i]?=some vi→items[j]?=some vj→Q (.bool (bt i j)) s'→wpAny (model prog w) A.in1 (richCompare .Lt vi vj) Q E s')
  (h:∀(v:Value) (h':Heap) (tk:Nat),items[argBest bt (items.size - 1)]?=some v→(∀b o,s.heap.get? b=some o→h'.get? b=some o)→Q v { s with heap:=h',toks:=tk }):wpAny (model prog w) A (call (.builtin "min") [.ref l]) Q E s:=by
 have nm:(toString "min"++toString ".loop":String)="min.loop":=by decide
 have ltl:l < s.heap.objs.size:=by obtain ⟨o,ho,_⟩:=hl;exact Heap.lt_size ho
 refine Bs PySem.F.kind_min PySem.F.plain_min PySem.F.entry_min (PySem.F.args_min1 _) ?_;show wpAny _ A.in1 (Builtin.Builtins.bindParams "min" ["key","default"] 0 ⟨[],[]⟩ >>= _) _ _ s;refine wpAny_bind (wpAny_of_eq (show Builtin.Builtins.bindParams "min" ["key","default"] 0 ⟨[],[]⟩=pure [none,none] from rfl) ?_);refine wpAny_bind (wpAny_pure ?_);refine wpAny_bind (wpAny_pyIter_list hl (wpAny_bind (wpAny_newObj_type ?_)));rw [nm];have VM:(s.heap.push { cls:=.type "list_iterator",data:=.fields #[.ref l,.int 0 0] }).objs.size=s.heap.objs.size + 1:=Heap.size_push ..;have W:=Walks.list (prog:=prog) (w:=w) (A:=A.in1) (by simp [hh]) s.heap.objs.size l (Nat.ne_of_lt ltl) items;refine wpAny_pure ⟨plainId_quiet PySem.F.plain_min_loop _,?_⟩;show codeAny (model prog w) A (.builtin "min.loop" ⟨[.ref s.heap.objs.size,.none,.ref (s.heap.push { cls:=.type "list_iterator",data:=.fields #[.ref l,.int 0 0] }).objs.size],[]⟩) _ { s with heap:=(s.heap.push { cls:=.type "list_iterator",data:=.fields #[.ref l,.int 0 0] }).push { cls:=.type "list",data:=.seq #[] } };have ol:∀b o,s.heap.get? b=some o→b∉[s.heap.objs.size]:=fun b o e=>by
  simp only [List.mem_cons,List.not_mem_nil,or_false];exact Nat.ne_of_lt (Heap.lt_size e)
 have ol2:∀b o,s.heap.get? b=some o→b≠(s.heap.push { cls:=.type "list_iterator",data:=.fields #[.ref l,.int 0 0] }).objs.size:=fun b o e=>by
  rw [VM];exact Nat.ne_of_lt (Nat.lt_succ_of_lt (Heap.lt_size e))
 refine Va (HK:=fun h=>∀b o,s.heap.get? b=some o→h.get? b=some o) W cmp (fun h h' k kk b o e=>kk b o (ol b o e) (ol2 b o e) (k b o e)) ?_ pos ⟨⟨_,Heap.get?_push_of_some _ (Heap.get?_push_size _ rfl),rfl,rfl⟩,(hl.push _).push _⟩ (fun b o e=>Heap.get?_push_of_some _ (Heap.get?_push_of_some _ e)) (Heap.get?_push_size _ rfl) fun v h' tk hv kk=>?_
 ·rw [VM];simp only [List.mem_cons,List.not_mem_nil,or_false,not_or];exact ⟨Nat.ne_of_gt (Nat.lt_succ_self _),Nat.ne_of_gt (Nat.lt_succ_of_lt ltl)⟩
 ·exact h v h' tk hv fun b o e=>kk b o (ol b o e) (ol2 b o e) (Heap.get?_push_of_some _ (Heap.get?_push_of_some _ e))
end
section
variable {X:Cx}
theorem zE (hc:X.calm=true) (hu:X.A.units + 1 < cLine):cY X (.builtin "min") (fun xs H Q=>∃(p:Addr) (rows:List Row) (sh:List Bool),xs=[.ref p]∧di X.K H p (rows.map fun r=>V.ref r.1)∧0 < rows.length∧(∀r∈rows,H r.1=some (.tup (r.2.map kV))∧r.2.map eX=sh)∧
  ∀r,rows[argBest (gq rows) (rows.length - 1)]?=some r→Q (.ref r.1) H):=by
 intro pins s σ H xs us Q I r h;obtain ⟨p,rows,sh,rfl,hp,pos,ha,q⟩:=h;obtain ⟨u,rfl,ru⟩:=vals1 r;cases ru;obtain ⟨its,r',pl,hz⟩:=I.list hp;have ei:its=rows.map fun r=>Value.ref r.1:=by
  clear pos ha q pl hz hp;induction rows generalizing its with
  | nil=>cases r';rfl
  | cons a rows ih=>
   cases r' with
   | cons h t=>
    cases h;rw [ih _ t];rfl
 subst ei;have tu:∀r∈rows,TupAt s.heap r∧r.2.map eX=sh:=fun r hr=>by
  obtain ⟨_,its,v,t⟩:=(show cB X.prog X.w H s.heap r.1 (.tup (r.2.map kV)) from I.hok r.1 _ (ha r hr).1)
  exact ⟨⟨its,v,t⟩,(ha r hr).2⟩
 refine Vb (bt:=gq rows) (I.ok.hd hc) pl.isList (by simpa using pos) (fun i j vi vj s' Q E k hi hj q=>?_) fun v h' tk hv k=>?_
 ·have hi':(rows.map fun r=>Value.ref r.1)[i]?=some vi:=by simpa using hi
  have hj':(rows.map fun r=>Value.ref r.1)[j]?=some vj:=by simpa using hj
  rw [List.getElem?_map] at hi' hj';cases ri:rows[i]? with
  | none=>rw [ri] at hi';cases hi'
  | some a=>
   cases rj:rows[j]? with
   | none=>rw [rj] at hj';cases hj'
   | some b=>
    rw [ri] at hi';rw [rj] at hj';cases hi';cases hj';obtain ⟨⟨its,v,t⟩,sa⟩:=tu a (List.mem_of_getElem? ri);obtain ⟨⟨its2,v2,t2⟩,sb⟩:=tu b (List.mem_of_getElem? rj);have ta:=(TupAt.keep (r:=a) ⟨its,v,t⟩ k)
    have tb:=(TupAt.keep (r:=b) ⟨its2,v2,t2⟩ k)
    obtain ⟨its,v,t⟩:=ta;obtain ⟨its2,v2,t2⟩:=tb;refine xj t t2 (by simpa using v) (by simpa using v2) (sa.trans sb.symm) hu ?_;have e:gq rows i j=iC a.2 b.2:=by
     unfold gq sJ;simp [ri,rj]
    rw [←e];exact q
 ·have hv':(rows.map fun r=>Value.ref r.1)[argBest (gq rows) (rows.length - 1)]?=some v:=by simpa using hv
  rw [List.getElem?_map] at hv';cases rv:rows[argBest (gq rows) (rows.length - 1)]? with
  | none=>rw [rv] at hv';cases hv'
  | some a=>
   rw [rv] at hv';cases hv';exact ⟨.ref a.1,H,I.kept (t':=tk) k,rfl,q a rv⟩
end
def Ite (K:PySem.W.Frag) (a:Addr):It:=⟨fun i H=>∃xs,di K H a xs∧i < xs.length,
 fun i H v H'=>∃p x,H p=none∧v=.ref p∧H'=upd H p (.tup [.int i,x])∧∀xs,di K H a xs→xs[i]?=some x,
 fun i H=>∃xs,di K H a xs∧i=xs.length⟩
theorem Nq {P:Program} {w:World} {K:PySem.W.Frag} {es:List Expr} {k:Nat} {ps:Pos} {a z j:Addr} (hzj:z≠j):
  Turn P w K (.Tuple es k ps) (Ite K a) [z,j] z (fun i h=>(∃old,IsEnum h z j i old)∧h.IsListIter j a i) where
 mem:=by simp
 obj:=fun i h st c hc=>by
  obtain ⟨⟨_,h1⟩,⟨o4,e4,_,d4⟩⟩:=st;simp only [List.mem_cons,List.not_mem_nil,or_false] at hc;rcases hc with rfl | rfl
  ·exact ⟨_,h1,fun v q=>by cases q⟩
  ·exact ⟨_,e4,fun v q=>by rw [d4] at q;cases q⟩
 keep:=fun i h h' st kk=>by
  obtain ⟨⟨old,h1⟩,⟨o4,e4,r4⟩⟩:=st;exact ⟨⟨old,kk z (by simp) _ h1⟩,⟨o4,kk j (by simp) _ e4,r4⟩⟩
 item:=by
  intro X hP hw hK hc i pins s σ H E I hf st hg;subst hP hw hK;obtain ⟨xs,ha,hi⟩:=hg;obtain ⟨its,r1,p1,_⟩:=I.list ha;obtain ⟨⟨old,s1⟩,s2⟩:=st;have ex:xs[i]?=some (xs.getD i .non):=by simp [List.getD,hi]
  obtain ⟨u,hu,q1⟩:=r1.get ex;have hx:its.toArray[i]?=some u:=by simpa using hu
  refine wpAny_pyNext_enum_item s1 s2 p1.isList hx hzj fun h' a1 a2 a3 a4 kk=>⟨_,rfl,wpAny_letOwnedTupleGo_enum a1 fun h2 z2 m2=>?_⟩
  have ltz:z < s.heap.objs.size:=Heap.lt_size s1;have ZF:H s.heap.objs.size=none:=I.hok.fresh (Nat.le_refl _);have kT:h2.get? s.heap.objs.size=some { cls:=.type "tuple",data:=.seq #[.int i s.toks,u] }:=m2.extBut _ _ (Nat.ne_of_gt ltz) a3;refine ⟨.ref s.heap.objs.size,upd H s.heap.objs.size (.tup [.int i,xs.getD i .non]),Inv.sH (s:=s) (h':=h2) (t':=s.toks + 1) (ch:=[z,j]) I (fun c o hc e=>?_) hf (bu.upd ZF) (fun c o e n=>?_) (fun c v e=>?_),rfl,⟨_,_,ZF,rfl,rfl,fun xs' h1=>?_⟩,⟨⟨_,z2⟩,a2.extBut m2.extBut (Ne.symm hzj)⟩,fun c hc=>?_⟩
  ·simp only [List.mem_cons,List.not_mem_nil,or_false,not_or] at hc;exact m2.extBut _ _ hc.1 (kk c o hc.1 hc.2 e)
  ·rw [aV (Nat.ne_of_lt (Heap.lt_size e))];exact n
  ·by_cases ZG:c=s.heap.objs.size
   ·subst ZG;rw [aP] at e;cases e;exact .inr ⟨by show 2≤sizeLine;decide,[.int i s.toks,u],.cons ⟨_,rfl⟩ (.cons q1 .nil),_,kT,rfl,_,rfl⟩
   ·rw [aV ZG] at e;exact .inl e
  ·rw [I.rQ h1 ha];exact ex
  ·rw [aV]
   ·exact (hf c hc).1
   ·simp only [List.mem_cons,List.not_mem_nil,or_false] at hc;obtain ⟨o4,e4,_⟩:=s2;rcases hc with rfl | rfl
    ·exact Nat.ne_of_lt ltz
    ·exact Nat.ne_of_lt (Heap.lt_size e4)
 done:=by
  intro X hP hw hK hc i pins s σ H E I hf st hg;subst hP hw hK;obtain ⟨xs,ha,hi⟩:=hg;obtain ⟨its,r1,p1,_⟩:=I.list ha;obtain ⟨⟨old,s1⟩,s2⟩:=st;have l1:=r1.length;refine wpAny_pyNext_enum_end (I.ok.hd hc) s1 s2 p1.isList (by simp;omega) fun h' kk=>⟨rfl,I.sH (t':=s.toks) (ch:=[z,j]) (fun c o hc e=>?_) hf (bu.refl H) (fun _ _ _ n=>n) fun _ _ e=>.inl e⟩
  simp only [List.mem_cons,List.not_mem_nil,or_false,not_or] at hc;exact kk _ _ hc.2 e
 self:=fun _ _ _ _ _ st h=>by
  obtain ⟨⟨_,h1⟩,_⟩:=st;exact wpAny_pyIter_enum h1 h
def abR (K:PySem.W.Frag) (t:TA):TI:=fun σ H R=>t σ H fun vs H1=>∃a xs,vs=[.ref a]∧di K H1 a xs∧R (Ite K a) H1
theorem Yl {X:Cx} {es:List Expr} {k:Nat} {ps:Pos} {x:Expr} {t:TA} {p pos:Pos} (hg:Gl X "enumerate") (hm:X.mg "enumerate"=none) (ha:PA X [x] t) (hs:starEach [x] X.env=[(false,eval x X.env)]:=by rfl) (hs2:starEach ([]:List Expr) X.env=[]:=by rfl):
  PI X (.Tuple es k ps) (.Call (.Name "enumerate" p) [x] [] pos) (abR X.K t):=by
 intro pins s σ H R I h;refine Call_ (mQ I hg hm PyProof.Rows.boot_enumerate (PyProof.Rows.callWith_type1 (cX (ha pos pins s σ H _ I h) fun us s1 aZ=>?_) (by rw [hs,hs2]) (by rw [hs2];rfl)));obtain ⟨vs,H1,I1,r1,a,xs,e,h1,q⟩:=aZ;subst e;obtain ⟨u,rfl,r⟩:=vals1 r1;cases r;obtain ⟨its,v1,p1,_⟩:=I1.list h1;refine call_enumerate_list p1.isList fun h' g1 g2 _ kk=>wpAny_pyIter_enum g1 ?_
 have I2:Inv X pins σ H1 { s1 with heap:=h' }:=I1.kept (t':=s1.toks) kk;refine ⟨s1.heap.objs.size + 1,[s1.heap.objs.size + 1,s1.heap.objs.size],_,_,H1,rfl,I2,Nq (Nat.succ_ne_self _),⟨⟨_,g1⟩,g2⟩,fun c hc=>?_,q⟩;refine I1.Av ?_ (I1.hok.fresh ?_)
 all_goals
  simp only [List.mem_cons,List.not_mem_nil,or_false] at hc;rcases hc with rfl | rfl <;> omega
def yz (ds:List PyData):List PyData:=ds.zipIdx.map fun p=>.tuple [.int (p.2:Nat),p.1]
theorem Gu {ds:List PyData} {i:Nat} {d:PyData} (h:(yz ds)[i]?=some d):∃x,ds[i]?=some x∧d=.tuple [.int i,x]:=by
 unfold yz at h;rw [List.getElem?_map,List.getElem?_zipIdx] at h;cases hx:ds[i]? with
 | none=>rw [hx] at h;cases h
 | some x=>
  rw [hx] at h;refine ⟨x,rfl,?_⟩;have:=Option.some.inj h;rw [←this,Nat.zero_add]
theorem Ai (ds:List PyData):(yz ds).length=ds.length:=by
 unfold yz;rw [List.length_map,List.length_zipIdx]
theorem Vc {K:PySem.W.Frag} {P:List Addr} {H:Hp} {a:Addr} {ds:List PyData} {vs:List V} (ha:er P H a=some (.lst vs)) (r:gn (er P H) ds vs):Fw P P H (Ite K a) (yz ds):=fun i H2 P2 s1 s2 n=>by
 have h2:di K H2 a vs:=di.of (bZ (s1 _ _ ha));have l1:=bW r;refine ⟨fun d hd=>?_,fun hi=>⟨vs,h2,by rw [hi,Ai];exact l1.symm⟩⟩;obtain ⟨x,e1,rfl⟩:=Gu hd;obtain ⟨v,ev,rv⟩:=oR r e1;refine ⟨⟨vs,h2,(List.getElem?_eq_some_iff.mp ev).1⟩,fun y H3 yl=>?_⟩;obtain ⟨p,v',hp,rfl,rfl,hh⟩:=yl;have g1:=hh vs h2;rw [ev] at g1;cases g1;have sp:bu H2 (upd H2 p (.tup [.int i,v])):=bu.upd hp;refine ⟨sp,p,[.int i,v],rfl,?_,.int i,[v],rfl,rfl,v,[],rfl,rv.same (s1.trans (Bp sp)),rfl⟩;unfold er;rw [if_neg (fun m=>n p m hp),aP]
def iEn (f:FE):FI:=fun env C=>match f env C with
 | some (r,e1,C1)=>match still r with
  | .im (.list ds)=>some (yz ds,e1,C1)
  | _=>none
 | none=>none
theorem Vd {X:Cx} {es:List Expr} {k:Nat} {ps:Pos} {x:Expr} {f:FE} {p pos:Pos} (hg:Gl X "enumerate") (hm:X.mg "enumerate"=none) (ha:PE X x (tE X.K f)) (hs:starEach [x] X.env=(false,eval x X.env)::starEach [] X.env:=by rfl) (hs1:starEach [x] X.env=[(false,eval x X.env)]:=by rfl) (hs2:starEach ([]:List Expr) X.env=[]:=by rfl):
  PI X (.Tuple es k ps) (.Call (.Name "enumerate" p) [x] [] pos) (tI X.K false (iEn f)):=(Yl hg hm (dZ ha jH hs) hs1 hs2).weak fun σ H R aZ=>by
 obtain ⟨Z,Θ,env,C,its,env',C',S,hf,q⟩:=aZ;unfold iEn at hf;split at hf
 case h_2=>cases hf
 rename_i r e1 C1 h1;split at hf
 case h_2=>cases hf
 rename_i ds hd;cases hf;refine ⟨Z,Θ,env,C,_,env',C',S,h1,fun v H1 k f R=>?_⟩;obtain ⟨S1,a,vs,rfl,ha,r⟩:=R.qH hd;exact ⟨a,vs,rfl,di.of (bZ ha),q _ H1 k f S1 (Vc ha r)⟩
theorem Aj {P:Program} {w:World} {k:Key} {u:Value} (h:(cL P w).is k u=true):RelV (kV k) u:=by
 rcases cP h with ⟨i,t,rfl,rfl⟩ | ⟨x,t,rfl,rfl⟩ <;> exact ⟨t,rfl⟩
section
variable {prog:Program} {w:World} {A:Around} {E:Value→Shared→Prop} {s:Shared} {r d:Addr} {kvs:List (Key×Value)} {ep:Nat} {b c:Bool} {Q:Value→Shared→Prop}
def je (as:List Addr) (gh:List (Key×Key)):List Row:=as.zipWith (fun a p=>(a,[p.1,p.2])) gh
theorem uT {gh:List (Key×Key)} (hh:A.handled=none) (hv:s.heap.IsItemsView r d) (hm:s.heap.DictAt (cL prog w) d kvs ep) (h64:gh.length < 64) (hne:0 < gh.length) (hk:kvs.map (·.1)=gh.map (·.1)) (hx:Vals (gh.map fun p=>kV p.2) (kvs.map (·.2))) (hty:∀p∈gh,eX p.1=b∧eX p.2=c)
  (h:∀(as:List Addr) (p:List Nat) (D:Addr) (h':Heap) (n tk:Nat),as.length=gh.length→as.Pairwise (· < ·)→(∀a∈as,s.heap.objs.size≤a∧a≠D)→(∀r∈je as gh,TupAt h' r)→p.Perm (List.range (je as gh).length)→p=vK ((je as gh).map (·.2))→s.heap.objs.size≤D→(∀b o,s.heap.get? b=some o→h'.get? b=some o)→
   h'.get? D=some (seqObj "list" ((p.map fun i=>(je as gh).getD i (0,[])).map fun r=>Value.ref r.1).toArray n)→Q (.ref D) { s with heap:=h',toks:=tk }):
  wpAny (model prog w) A (call (.builtin "sorted") [.ref r]) Q E s:=by
 have hlk:kvs.length=gh.length:=by have:=congrArg List.length hk;simpa using this
 refine Calls.call_function_entry kind_sorted plain_sorted entry_sorted (args_sorted1 _) ?_;unfold Builtin.«sorted»;refine wpAny_bind (m:=checkCount "sorted" 1 1 _) (wpAny_pure (wpAny_bind (kdx_collect (A:=A.in1) (by simp [hh]) hv hm (by rw [sizeLine_eq];omega) fun h1 tk as kk hlen G=>?_)));have hla:as.length=gh.length:=by omega
 have hlr:(je as gh).length=gh.length:=by unfold je;rw [List.length_zipWith];omega
 have tu:∀r∈je as gh,TupAt h1 r∧r.2.map eX=b::[c]:=fun r hr=>by
  obtain ⟨j,hj,rfl⟩:=List.getElem_of_mem hr;rw [hlr] at hj;have ea:as[j]?=some as[j]:=List.getElem?_eq_getElem (by omega);have ek:gh[j]?=some gh[j]:=List.getElem?_eq_getElem hj;obtain ⟨key,k,x,e1,e2,e3⟩:=G.pairs j _ ea;have er:(je as gh)[j]'(by omega)=(as[j],[gh[j].1,gh[j].2]):=by simp [je]
  rw [er];have kk1:k=gh[j].1:=by
   have:=congrArg (·[j]?) hk;simp only [List.getElem?_map,e1,ek,Option.map_some] at this;exact Option.some.inj this
  have kx:RelV (kV gh[j].2) x:=by
   have q1:(gh.map fun p=>kV p.2)[j]?=some (kV gh[j].2):=by rw [List.getElem?_map,ek];rfl
   obtain ⟨u,g1,g2⟩:=hx.get q1;rw [List.getElem?_map,e1] at g1;cases g1;exact g2
  refine ⟨⟨[key,x],.cons (kk1 ▸ Aj e2) (.cons kx .nil),_,e3,rfl,_,rfl⟩,?_⟩;have:=hty gh[j] (List.getElem_mem hj);show [eX gh[j].1,eX gh[j].2]=_;rw [this.1,this.2]
 have eu:as.map Value.ref=(je as gh).map fun r=>Value.ref r.1:=by
  refine List.ext_getElem (by rw [List.length_map,List.length_map];omega) fun i h1 h2=>?_
  rw [List.getElem_map,List.getElem_map];simp [je]
 rw [eu];have hsz:s.heap.objs.size≤h1.objs.size:=by
  have m:as[0]'(by omega)∈as:=List.getElem_mem _;exact Nat.le_of_lt (Nat.lt_trans (G.above _ m) (G.there m))
 generalize hR:je as gh=rows at *;refine wpAny_bind (wpAny_newList ?_ (by rw [List.length_map,sizeLine_eq];omega));have hoL:(h1.push (seqObj "list" (rows.map fun r=>Value.ref r.1).toArray 0)).get? h1.objs.size=some (seqObj "list" (rows.map fun r=>Value.ref r.1).toArray 0):=Heap.get?_push_size _ rfl;have up:∀s':Shared,Kp h1.objs.size (h1.push (seqObj "list" (rows.map fun r=>Value.ref r.1).toArray 0)) s'.heap→∀b o,h1.get? b=some o→s'.heap.get? b=some o:=fun s' k b o e=>k b o (Nat.ne_of_lt (Heap.lt_size e)) (Heap.get?_push_of_some _ e)
 refine wpAny_bind (wpAny_holding (wpAny_call_entry slot_list_sort ⟨_,hoL,rfl⟩ entry_list_sort (wZ (κ:=tuples' true) (lt:=gq rows) (Rl:=fun p=>p=vK (rows.map (·.2))) (vs:=rows.map fun r=>Value.ref r.1) (s:={ s with heap:=h1.push (seqObj "list" (rows.map fun r=>Value.ref r.1).toArray 0),toks:=tk }) hoL (by rw [List.length_map];omega) (fun h2=>uC (by rw [List.length_map]) h2) (fun h2=>rA (by rw [List.length_map]) h2)
  (fun h2 s' k Q' q'=>uA (fun r hr=>⟨(tu r hr).1.keep (up s' k),(tu r hr).2⟩) (by rw [List.length_map] at h2;omega) Q' q') (fun h2 s' k i j hi hj C q'=>xq (sh:=b::[c]) (fun r hr=>⟨(tu r hr).1.keep (up s' k),(tu r hr).2⟩) (by simpa using hi) (by simpa using hj) C q') fun p h' n hp hrl k e=>⟨_,rfl,?_⟩) (args_list_sort _)))
 rw [List.length_map] at hp;rw [uB hp] at e;have kh:=up { s with heap:=h' } k;subst hR;exact wpAny_pure ⟨_,rfl,h as p h1.objs.size h' n tk hla G.rise (fun a ha=>⟨Nat.le_of_lt (G.above a ha),Nat.ne_of_lt (G.there ha)⟩) (fun r hr=>(tu r hr).1.keep kh) hp hrl hsz (fun b o e=>kh b o (kk b o e)) e⟩
end
def layR (H:Hp) (rows:List Row):Hp:=fun a=>match rows.find? (fun r=>decide (r.1=a)) with
 | some r=>some (.tup (r.2.map kV))
 | none=>H a
theorem Ro {H:Hp} {rows:List Row} {a:Addr} (h:∀r∈rows,r.1≠a):layR H rows a=H a:=by
 unfold layR;rw [List.find?_eq_none.mpr fun r hr=>by rw [decide_eq_false (h r hr)];exact Bool.false_ne_true]
theorem K9 {H:Hp}:∀{rows:List Row},(rows.map (·.1)).Nodup→∀r∈rows,layR H rows r.1=some (.tup (r.2.map kV))
 | q::rows,nd,r,hr=>by
  rw [List.map_cons,List.nodup_cons] at nd;unfold layR;rcases List.mem_cons.mp hr with rfl | hr
  ·rw [List.find?_cons_of_pos (by simp)]
  ·have ne:¬decide (q.1=r.1)=true:=fun e=>nd.1 (List.mem_map.mpr ⟨r,hr,(of_decide_eq_true e).symm⟩)
   rw [List.find?_cons_of_neg (p:=fun r1:Row=>decide (r1.1=r.1)) ne];exact K9 nd.2 r hr
theorem Nr {H:Hp} {rows:List Row} {a:Addr} {u:HO} (h:layR H rows a=some u):H a=some u∨∃r∈rows,r.1=a∧u=.tup (r.2.map kV):=by
 unfold layR at h;cases hf:rows.find? (fun r=>decide (r.1=a)) with
 | none=>rw [hf] at h;exact .inl h
 | some r=>
  rw [hf] at h;exact .inr ⟨r,List.mem_of_find?_eq_some hf,of_decide_eq_true (List.find?_some (p:=fun r:Row=>decide (r.1=a)) hf),(Option.some.inj h).symm⟩
theorem Gv:∀{gh:List (Key×Key)} {vs:List (Key×Value)},KV (gh.map fun p=>(p.1,kV p.2)) vs→vs.map (·.1)=gh.map (·.1)∧Vals (gh.map fun p=>kV p.2) (vs.map (·.2))
 | [],vs,h=>by cases h;exact ⟨rfl,.nil⟩
 | p::gh,vs,h=>by
  cases h with
  | cons h t=>
   obtain ⟨a,b⟩:=Gv t;exact ⟨by rw [List.map_cons,List.map_cons,a,←h.1],.cons h.2 b⟩
def Ve (td:TE):TE:=fun σ H Q=>td σ H fun x H1=>∃(d:Addr) (gh:List (Key×Key)) (b c:Bool),x=.ref d∧H1 d=some (.dK (gh.map fun p=>(p.1,kV p.2)))∧gh.length < 64∧0 < gh.length∧(∀p∈gh,eX p.1=b∧eX p.2=c)∧
 ∀(l:Addr) (rows:List Row) (H2:Hp),bu H1 H2→H1 l=none→H2 l=some (.lst (rows.map fun r=>V.ref r.1))→rows.map (·.2)=xm (gh.map fun p=>[p.1,p.2])→(∀r∈rows,H2 r.1=some (.tup (r.2.map kV)))→Q (.ref l) H2
theorem Nt {X:Cx} {o:Expr} {td:TE} {p1 apos cpos pos1:Pos} (hc:X.calm=true) (ho:PE X o td) (g1:Gl X "sorted") (m1:X.mg "sorted"=none)
  (he:starEach [.Call (.Attribute o "items" apos) [] [] cpos] X.env=(false,eval (.Call (.Attribute o "items" apos) [] [] cpos) X.env)::starEach [] X.env:=by rfl) (hpl:(backTo pos1 (starEach [] X.env)).any (·.1)=false:=by rfl)
  (hbase:attributeBase o "items" X.env (eval o X.env)=eval o X.env:=by rfl) (hline:(apos.endLine==cpos.line)=true:=by rfl):
  PE X (.Call (.Name "sorted" p1) [.Call (.Attribute o "items" apos) [] [] cpos] [] pos1) (Ve td):=by
 intro pins s σ H Q I h;refine wpAny_Call_Name_kw (mQ I g1 m1 (u:=.builtin "sorted") rfl ?_);refine PyProof.Rows.callWith_builtin1 ?_ he hpl;rw [he];show wpAny _ _ (spliced ((false,eval (.Call (.Attribute o "items" apos) [] [] cpos) X.env)::backTo pos1 (starEach [] X.env))) _ _ s;refine Calls.spliced_cons (wpAny_Call_method (T:="dict") (id:="dict.items") hbase rfl hline PySem.F.plainAttrs_dict PySem.F.slot_dict_items PySem.F.type_dict_items (cX (ho pins s σ H _ I h) fun u s1 aZ=>?_));obtain ⟨x,H1,I1,rx,d,gh,b,c,ex,hd,h64,hne,hty,q⟩:=aZ;subst ex;obtain rfl:u=Value.ref d:=rx;obtain ⟨z,lo,vs,rel,dd⟩:=J0 I1.hok hd;obtain ⟨hk,hx⟩:=Gv rel;refine ⟨dd.typeIs,dd.mapOf.noDict,?_⟩;show wpAny _ _ (callWith cpos (.builtin "dict.items") [.ref d] [] []) _ _ s1;refine method_meetsIn PySem.F.slot_dict_items PySem.F.entry_dict_items rfl (PyProof.Rows.evalArgs_none ⟨rfl,dd.typeIs,PySem.F.args_dict_items_1 _,_,meets_dict_items (cL X.prog X.w) d lo,⟨vs,dd⟩,Calls.spliced_nil ?_⟩);obtain ⟨od,es,ep,hod,hdr⟩:=dd;have sz:(s1.heap.push { cls:=.type "dict_items",data:=.fields #[.ref d] }).objs.size=s1.heap.objs.size + 1:=Heap.size_push ..;refine uT (I1.ok.hd hc) (d:=d) ⟨_,Heap.get?_push_size _ rfl,rfl,rfl⟩ (ep:=ep) ⟨od,es,Heap.get?_push_of_some _ hod,hdr⟩ h64 hne hk hx hty fun as p D h' n tk hla hup hfr tu hp hrl hD kk e=>?_
 have nda:as.Nodup:=hup.imp fun h=>Nat.ne_of_lt h
 obtain ⟨rows,hR⟩:∃rows,rows=je as gh:=⟨_,rfl⟩
 rw [←hR] at tu hp hrl e;have r1:rows.map (·.1)=as:=by
  rw [hR];refine List.ext_getElem (by simp [je,hla]) fun i h1 h2=>?_
  simp [je]
 have r2:rows.map (·.2)=gh.map fun p=>[p.1,p.2]:=by
  rw [hR];refine List.ext_getElem (by simp [je,hla]) fun i h1 h2=>?_
  simp [je]
 have ra:∀r∈rows,s1.heap.objs.size≤r.1∧r.1≠D:=fun r hr=>by
  have m:r.1∈as:=by rw [←r1];exact List.mem_map.mpr ⟨r,hr,rfl⟩
  have:=hfr _ m;rw [sz] at this;exact ⟨by omega,this.2⟩
 rw [sz] at hD;have hnD:H1 D=none:=I1.hok.fresh (by omega);have old:∀a,a < s1.heap.objs.size→upd (layR H1 rows) D (.lst ((p.map fun i=>rows.getD i (0,[])).map fun r=>V.ref r.1)) a=H1 a:=fun a ha=>by
  rw [aV (show a≠D by omega),Ro fun r hr z=>by have:=(ra r hr).1;rw [z] at this;omega]
 have hin:∀r∈rows,upd (layR H1 rows) D (.lst ((p.map fun i=>rows.getD i (0,[])).map fun r=>V.ref r.1)) r.1=some (.tup (r.2.map kV)):=fun r hr=>by
  rw [aV (ra r hr).2];exact K9 (by rw [r1];exact nda) r hr
 have sm:bu H1 (upd (layR H1 rows) D (.lst ((p.map fun i=>rows.getD i (0,[])).map fun r=>V.ref r.1))):=fun a u ha=>by
  have lt:a < s1.heap.objs.size:=by
   rcases Nat.lt_or_ge a s1.heap.objs.size with h | h
   ·exact h
   ·rw [I1.hok.fresh h] at ha;cases ha
  rw [old a lt];exact ha
 refine ⟨.ref D,_,Inv.sH (s:=s1) (h':=h') (t':=tk) (ch:=[]) I1 (fun a o _ q=>kk a o (Heap.get?_push_of_some _ q)) (fun _ m=>nomatch m) sm (fun a o q n=>by rw [old a (Heap.lt_size q)];exact n) (fun a u ha=>?_),rfl,q D (p.map fun i=>rows.getD i (0,[])) _ sm hnD aP ((Bo hp hrl).trans (by rw [r2])) fun r hr=>hin r ((pY hp).mem_iff.mp hr)⟩;by_cases hz:a=D
 ·subst hz;rw [aP] at ha;cases ha;refine .inr ⟨?_,_,n,pZ _,by simpa [seqObj] using e⟩;rw [List.length_map,List.length_map,hp.length_eq,List.length_range,sizeLine_eq];have:=congrArg List.length r2;rw [List.length_map,List.length_map] at this;omega
 ·rw [aV hz] at ha;rcases Nr ha with h | ⟨r,hr,rfl,rfl⟩
  ·exact .inl h
  ·obtain ⟨its,v,t⟩:=tu r hr;refine .inr ⟨?_,its,v,t⟩;have m:r.2∈gh.map fun p=>[p.1,p.2]:=by rw [←r2];exact List.mem_map.mpr ⟨r,hr,rfl⟩
   obtain ⟨pp,_,e2⟩:=List.mem_map.mp m;rw [←e2,sizeLine_eq];show 2≤_;omega
def Rp:List (PyData×PyData)→Option (List (Key×Key))
 | []=>some []
 | p::r=>(c7 p.1).bind fun k=>(c7 p.2).bind fun v=>(Rp r).map fun t=>(k,v)::t
theorem Gw {E:Hp}:∀{kvs:List (PyData×PyData)} {gh:List (Key×Key)} {ks:List Key} {vs:List V},Rp kvs=some gh→cM c7 kvs=some ks→um E kvs vs→ks.zip vs=gh.map (fun p=>(p.1,kV p.2))∧kvs.map (fun p=>PyData.tuple [p.1,p.2])=gh.map (fun p=>.tuple [uQ p.1,uQ p.2])
 | [],gh,ks,vs,h,h1,_=>by cases h;cases h1;exact ⟨rfl,rfl⟩
 | p::r,gh,ks,vs,h,h1,h2=>by
  obtain ⟨k,e1,h⟩:=Option.bind_eq_some_iff.mp h;obtain ⟨v,e2,h⟩:=Option.bind_eq_some_iff.mp h;obtain ⟨t,e3,h⟩:=Option.map_eq_some_iff.mp h;subst h;unfold cM at h1;rw [e1] at h1;cases ha:cM c7 r with
  | none=>rw [ha] at h1;cases h1
  | some t1=>
   rw [ha] at h1;cases h1;obtain ⟨u,w,rfl,q,h2⟩:=h2;obtain ⟨a,b⟩:=Gw e3 ha h2;obtain ⟨p1,p2⟩:=p;have hv:u=kV v:=Qs e2 q;have d1:p1=uQ k:=by cases p1 <;> first | (cases e1;rfl) | cases e1
   have d2:p2=uQ v:=by cases p2 <;> first | (cases e2;rfl) | cases e2
   refine ⟨?_,?_⟩
   ·rw [List.zip_cons_cons,List.map_cons,a,hv]
   ·rw [List.map_cons,List.map_cons,b,d1,d2]
def Jo (kvs:List (PyData×PyData)):Option (List PyData):=(Rp kvs).bind fun gh=>gh.head?.bind fun p=>if gh.length < 64∧∀q∈gh,eX q.1=eX p.1∧eX q.2=eX p.2 then some (yg (kvs.map fun p=>.tuple [p.1,p.2])) else none
def Rq:PyData→Option (List (PyData×PyData))
 | .dict kvs=>some kvs
 | _=>none
theorem Rr {d:PyData} {kvs:List (PyData×PyData)} (h:Rq d=some kvs):d=.dict kvs:=by
 cases d <;> first | (cases h;rfl) | cases h
def CV (f:FB):FE:=fun env C=>(f env C).bind fun p=>(Rq p.1).bind fun kvs=>(Jo kvs).map fun l=>(.ow (.list l),env,p.2.2)
theorem Nu {X:Cx} {o:Expr} {f:FB} {p1 apos cpos pos1:Pos} (hc:X.calm=true) (ho:PE X o (mL X.K f)) (g1:Gl X "sorted") (m1:X.mg "sorted"=none)
  (he:starEach [.Call (.Attribute o "items" apos) [] [] cpos] X.env=(false,eval (.Call (.Attribute o "items" apos) [] [] cpos) X.env)::starEach [] X.env:=by rfl) (hpl:(backTo pos1 (starEach [] X.env)).any (·.1)=false:=by rfl)
  (hbase:attributeBase o "items" X.env (eval o X.env)=eval o X.env:=by rfl) (hline:(apos.endLine==cpos.line)=true:=by rfl):
  PE X (.Call (.Name "sorted" p1) [.Call (.Attribute o "items" apos) [] [] cpos] [] pos1) (tE X.K (CV f)):=(Nt hc ho g1 m1 he hpl hbase hline).weak fun σ H Q aZ=>by
 obtain ⟨Z,Θ,env,C,r,env',C',S,hf,q⟩:=aZ;refine hide fun GG gg=>?_
 obtain ⟨⟨d,e1,C1⟩,h1,hf⟩:=Option.bind_eq_some_iff.mp hf;obtain ⟨kvs,hd,hf⟩:=Option.bind_eq_some_iff.mp hf;obtain ⟨l,hl,hf⟩:=Option.map_eq_some_iff.mp hf;obtain ⟨gh,hk,hl⟩:=Option.bind_eq_some_iff.mp hl;obtain ⟨p,hp,hl⟩:=Option.bind_eq_some_iff.mp hl;split at hl
 case isFalse=>cases hl
 rename_i hall;cases hl;cases hf;cases Rr hd;have pos:0 < gh.length:=by
  cases gh with
  | nil=>cases hp
  | cons _ _=>exact Nat.succ_pos _
 refine gg ⟨Z,Θ,env,C,.dict kvs,e1,C1,S,h1,fun v H1 k f S1 b1=>?_⟩;refine hide fun G2 g2=>?_
 obtain ⟨a,vs,rfl,da,rr⟩:=b1.dct;rcases da with ⟨ks,a1,a2⟩ | ⟨ks,⟨ne,a1⟩,a2⟩
 ·obtain ⟨e2,e3⟩:=Gw hk a1 rr;rw [e2] at a2;refine g2 ⟨a,gh,eX p.1,eX p.2,rfl,a2,hall.1,pos,hall.2,fun l rows H2 sm hn hl hr hin=>?_⟩;have kp:bY Θ H H2:=k.trans (bY.of sm);have SD:=S.xU (k.none hn) kp ⟨_,hl,fun _ z=>nomatch z⟩ ⟨S1.cell.len,fun n b ns e2 e3=>sm _ _ (S1.cell.at_ n b ns e2 e3)⟩;have es:(rows.map fun r=>PyData.tuple (r.2.map uQ))=yg (kvs.map fun p=>.tuple [p.1,p.2]):=by
   unfold yg;rw [e3,List.map_map];have:(gh.map (vA ∘ fun p=>PyData.tuple [uQ p.1,uQ p.2]))=gh.map fun p=>[p.1,p.2]:=by
    refine List.map_congr_left fun q _=>?_
    show (keysOf ([q.1,q.2].map uQ)).getD []=[q.1,q.2]
    rw [o7];rfl
   rw [this,←hr,List.map_map];rfl
  refine q _ H2 kp (Fz.refl _) ⟨l,rfl,k.none hn,SD,_,hl,?_⟩;rw [←es];exact o8 fun r m=>uF SD (hin r m)
 ·exfalso;cases kvs with
  | nil=>exact ne rfl
  | cons q r=>
   obtain ⟨k',e1,_⟩:=Option.bind_eq_some_iff.mp hk;unfold cM at a1;split at a1
   ·rename_i g1 _;exact Qt e1 g1
   ·cases a1
def Gx (ks:List (List Key)):Nat:=argBest (fun i j=>iC (ks.getD i (ks.headD [])) (ks.getD j (ks.headD []))) (ks.length - 1)
theorem Jp (rows:List Row):argBest (gq rows) (rows.length - 1)=Gx (rows.map (·.2)):=by
 have e:gq rows=fun i j=>iC ((rows.map (·.2)).getD i ((rows.map (·.2)).headD [])) ((rows.map (·.2)).getD j ((rows.map (·.2)).headD [])):=by
  funext i j;rw [gq,sO,sO]
 unfold Gx;rw [e,List.length_map]
def Jq (ds:List PyData):Option Vl:=ds.head?.bind fun d0=>(yf d0).bind fun sh=>if ∀d∈ds,yf d=some sh then (ds[Gx (ds.map vA)]?).map .im else none
def CW:List PyData→Option Vl
 | [.list ds]=>Jq ds
 | _=>none
theorem Vf {K:PySem.W.Frag}:BR K (fun xs H Q=>∃(p:Addr) (rows:List Row) (sh:List Bool),xs=[.ref p]∧di K H p (rows.map fun r=>V.ref r.1)∧0 < rows.length∧(∀r∈rows,H r.1=some (.tup (r.2.map kV))∧r.2.map eX=sh)∧
  ∀r,rows[argBest (gq rows) (rows.length - 1)]?=some r→Q (.ref r.1) H) CW:=by
 intro Z Θ env C σ H xs ds res S b e Q q;refine hide fun GG gg=>?_
 unfold CW at e;split at e
 case h_2=>cases e
 rename_i ds;obtain ⟨d0,h0,e⟩:=Option.bind_eq_some_iff.mp e;obtain ⟨sh,_,e⟩:=Option.bind_eq_some_iff.mp e;split at e
 case isFalse=>cases e
 rename_i hall;obtain ⟨d,hd,rfl⟩:=Option.map_eq_some_iff.mp e;obtain ⟨v,rfl,bb⟩:=nQ b;obtain ⟨a,vs,rfl,ha,r⟩:=bb.lst;obtain ⟨rows,rfl,e2,e3⟩:=yh hall r;have ek:ds.map vA=rows.map (·.2):=by
  rw [e2,List.map_map];refine List.map_congr_left fun r _=>?_
  show (keysOf (r.2.map uQ)).getD []=r.2;rw [o7];rfl
 rw [ek,←Jp] at hd;refine gg ⟨a,rows,sh,rfl,di.of ha,?_,fun r m=>⟨bZ (e3 r m).1,(e3 r m).2⟩,fun r hr=>?_⟩
 ·cases rows with
  | nil=>rw [e2] at h0;cases h0
  | cons _ _=>exact Nat.succ_pos _
 ·have m:=List.mem_of_getElem? hr;have hd':d=.tuple (r.2.map uQ):=by
   rw [e2,List.getElem?_map,hr] at hd;exact (Option.some.inj hd).symm
  obtain ⟨u,t,e4,q4,_⟩:=o8 (E:=er (aR Z Θ env σ) H) (rows:=[r]) fun x hx=>by rw [List.mem_singleton.mp hx];exact (e3 r m).1
  cases e4;refine q _ H (bY.refl _ _) ⟨S,?_⟩;rw [hd'];exact q4
def Bl (L:Nat) (C:Ce) (b k:Nat):Prop:=C.length=L∧∃x y z:Int,C[b]?=some [x,y,z]∧0≤x∧0≤z∧z + k≤900000
theorem Bl.mono {L:Nat} {C:Ce} {b k j:Nat} (h:Bl L C b k) (hj:j≤k):Bl L C b j:=by
 obtain ⟨l,x,y,z,h1,h2,h5,h6⟩:=h;exact ⟨l,x,y,z,h1,h2,h5,by omega⟩
theorem Bl.dec {L:Nat} {C:Ce} {b k:Nat} (h:Bl L C b (k + 1)):Bl L C b k:=h.mono (Nat.le_succ k)
theorem Bl.eq {L:Nat} {C C':Ce} {b b' k k':Nat} (h:Bl L C b k) (h':Bl L C' b' k'):C'.length=C.length:=h'.1.trans h.1.symm
theorem Ym (C:Ce) {x y:Int} (h0:0≤x):Bl (C.length + 1) (C++[[x,y,0]]) C.length 800000:=by
 refine ⟨by simp,x,y,0,?_,h0,Int.le_refl _,by omega⟩;rw [List.getElem?_append_right (Nat.le_refl _),Nat.sub_self];rfl
theorem yC {n s u f i j:Int} (hu:s * u % n=1) (n0:0 < n) (hi:0≤i) (hj:0≤j) (hi':i < n) (hj':j < n) (e:(f + s * i) % n=(f + s * j) % n):i=j:=by
 have h1:(f + s * i - (f + s * j)) % n=0:=Int.emod_eq_emod_iff_emod_sub_eq_zero.mp e;obtain ⟨d,hd⟩:=Int.dvd_of_emod_eq_zero h1;have hq:s * u=n * (s * u / n) + 1:=by
  have:=Int.mul_ediv_add_emod (s * u) n;rw [hu] at this;exact this.symm
 generalize s * u / n=q at hq;have key:i - j=n * (u * d - q * (i - j)):=by grind
 have h2:(i - j) % n=0:=Int.emod_eq_zero_of_dvd ⟨_,key⟩;have h3:i % n=j % n:=Int.emod_eq_emod_iff_emod_sub_eq_zero.mpr h2;rw [Int.emod_eq_of_lt hi hi',Int.emod_eq_of_lt hj hj'] at h3;exact h3
def Gy (s:Int):Prop:=(0 < s∧s≤675)∧(∃u,s * u % 676=1)∧∃u,s * u % 26=1
theorem step_at {k:Int} (h0:0≤k) (h1:k < 6):∃s,n6 [PyData.int 1,.int 3,.int 5,.int 7,.int 25,.int 675] k=some (.int s)∧Gy s:=by
 have hk:k=0∨k=1∨k=2∨k=3∨k=4∨k=5:=by omega
 rcases hk with rfl | rfl | rfl | rfl | rfl | rfl
 ·exact ⟨1,rfl,by decide,⟨1,by decide⟩,⟨1,by decide⟩⟩
 ·exact ⟨3,rfl,by decide,⟨451,by decide⟩,⟨9,by decide⟩⟩
 ·exact ⟨5,rfl,by decide,⟨541,by decide⟩,⟨21,by decide⟩⟩
 ·exact ⟨7,rfl,by decide,⟨483,by decide⟩,⟨15,by decide⟩⟩
 ·exact ⟨25,rfl,by decide,⟨649,by decide⟩,⟨25,by decide⟩⟩
 ·exact ⟨675,rfl,by decide,⟨675,by decide⟩,⟨25,by decide⟩⟩
theorem CZ {z:Str} {l:List Nat} (e:z.cps.toList=l) (h1:1≤l.length) (h2:l.length≤8) (h3:∀c∈l,97≤c∧c≤122):nameB z=true:=by
 have e2:z.length=l.length:=by rw [←e];show z.cps.size=_;simp
 unfold nameB azB;rw [e,e2];simp only [Bool.and_eq_true,decide_eq_true_eq,List.all_eq_true];exact ⟨⟨h1,h2⟩,h3⟩
theorem jl {α:Type} {f:Nat→α} {n:Nat} (h:∀i j,i < n→j < n→f i=f j→i=j):((List.range n).map f).Nodup:=by
 rw [List.nodup_iff_pairwise_ne,List.pairwise_map];refine List.Pairwise.imp_of_mem (R:=(· < ·)) (fun {a b} ha hb hab e=>?_) List.pairwise_lt_range;have:=h a b (List.mem_range.mp ha) (List.mem_range.mp hb) e;omega
def n1 (f s:Int) (k:Nat):Str:=⟨#[97 + ((f + s * k) % 26).toNat]⟩
theorem Rt {f s:Int} {n:Nat} (hs:Gy s) (hn:n≤26):Names ((List.range n).map (n1 f s)):=by
 refine ⟨jl fun i j hi hj e=>?_,fun z hz=>?_⟩
 ·obtain ⟨_,_,u,hu⟩:=hs;have e1:97 + ((f + s * i) % 26).toNat=97 + ((f + s * j) % 26).toNat:=by
   have:=congrArg (fun z:Str=>z.cps.toList) e;simpa [n1] using this
  have a1:0≤(f + s * i) % 26:=Int.emod_nonneg _ (by decide);have a2:0≤(f + s * j) % 26:=Int.emod_nonneg _ (by decide);have:=yC (n:=26) (f:=f) (i:=i) (j:=j) hu (by decide) (by omega) (by omega) (by omega) (by omega) (by omega);omega
 ·obtain ⟨k,_,rfl⟩:=List.mem_map.mp hz;have a1:0≤(f + s * k) % 26:=Int.emod_nonneg _ (by decide);have a2:(f + s * k) % 26 < 26:=Int.emod_lt_of_pos _ (by decide);refine CZ (l:=[97 + ((f + s * k) % 26).toNat]) rfl (Nat.le_refl _) (by show 1≤8;decide) fun c hc=>?_
  rw [List.mem_singleton.mp hc];omega
def v2 (f s:Int) (k:Nat):Int:=(f + s * k) % 676
def two (v:Int):Str:=(⟨#[97 + (v / 26).toNat]⟩:Str)++(⟨#[97 + (v % 26).toNat]⟩:Str)
def n2 (hd tl:Str) (f s:Int) (q:Nat→Int) (k:Nat):Str:=hd++two (v2 f s k)++Txt.slice tl none (some (q k))
theorem Gz (hd tl:Str) (f s:Int) (q:Nat→Int) (k:Nat):(n2 hd tl f s q k).cps.toList=hd.cps.toList++([97 + (v2 f s k / 26).toNat,97 + (v2 f s k % 26).toNat]++(Txt.slice tl none (some (q k))).cps.toList):=by
 show ((hd.cps++(#[97 + (v2 f s k / 26).toNat]++#[97 + (v2 f s k % 26).toNat]))++(Txt.slice tl none (some (q k))).cps).toList=_;simp
theorem Ru {hd tl:Str} {f s:Int} {q:Nat→Int} {n:Nat} (hs:Gy s) (hn:n≤36) (hh:hd.length≤3) (ht:tl.length≤3) (ch:∀c∈hd.cps.toList,97≤c∧c≤122) (ct:∀c∈tl.cps.toList,97≤c∧c≤122):Names ((List.range n).map (n2 hd tl f s q)):=by
 have b:∀k:Nat,0≤v2 f s k∧v2 f s k < 676:=fun k=>⟨Int.emod_nonneg _ (by decide),Int.emod_lt_of_pos _ (by decide)⟩
 refine ⟨jl fun i j hi hj e=>?_,fun z hz=>?_⟩
 ·obtain ⟨_,⟨u,hu⟩,_⟩:=hs;have e1:=congrArg (fun z:Str=>z.cps.toList) e;simp only [Gz] at e1;have e2:=List.append_cancel_left e1;rw [List.cons_append,List.cons_append,List.nil_append,List.cons_append,List.cons_append,List.nil_append] at e2;injection e2 with e3 e4
  injection e4 with e5 _
  have b1:=b i;have b2:=b j;have ev:v2 f s i=v2 f s j:=by omega
  have:=yC (n:=676) (f:=f) (i:=i) (j:=j) hu (by decide) (by omega) (by omega) (by omega) (by omega) ev;omega
 ·obtain ⟨k,_,rfl⟩:=List.mem_map.mp hz;have bk:=b k;have l1:hd.cps.toList.length=hd.length:=by show _=hd.cps.size;simp
  have l2:(Txt.slice tl none (some (q k))).cps.toList.length=(Txt.slice tl none (some (q k))).length:=by show _=(Txt.slice tl none (some (q k))).cps.size;simp
  have l3:=PyProof.Txt.length_slice_le tl none (some (q k));refine CZ (Gz hd tl f s q k) (by rw [List.length_append,List.length_append];show 1≤_ + (2 + _);omega) (by rw [List.length_append,List.length_append,l1,l2];show _ + (2 + _)≤8;omega) fun c hc=>?_
  rcases List.mem_append.mp hc with hc | hc
  ·exact ch c hc
  ·rcases List.mem_append.mp hc with hc | hc
   ·simp only [List.mem_cons,List.not_mem_nil,or_false] at hc;rcases hc with rfl | rfl <;> omega
   ·exact ct c (KQ hc)
def jf (f:Int):List Nat:=(List.range 8).map fun (k:Nat)=>97 + ((f + 5 * (k:Int)) % 26).toNat
def sl (z:Str) (n k:Nat):Str:=Txt.slice z (some (k:Int)) (some ((k:Int) + (n:Int)))
def sb (z:Str) (n:Nat):List Str:=(List.range (8 - n)).map (sl z (n + 1))
def subs (z:Str) (m:Nat):List Str:=(List.range m).flatMap (sb z)
theorem yD {z:Str} {n k:Nat} (hz:z.length=8) (h:k + n≤8):(sl z n k).cps.toList=(z.cps.toList.drop k).take n:=by
 have:=eq_of_beq (slice_closesL (x:=z) (i:=(k:Int)) (j:=(k:Int) + (n:Int)) (by omega) (by omega) (by omega));unfold sl;rw [this];show ((z.cps.toList.drop (k:Int).toNat).take ((k:Int) + (n:Int) - (k:Int)).toNat)=_;rw [show ((k:Int) + (n:Int) - (k:Int)).toNat=n by omega,Int.toNat_natCast]
theorem La {f:Int} {k:Nat} (h:k < 8):(jf f)[k]?=some (97 + ((f + 5 * (k:Int)) % 26).toNat):=by
 unfold jf;rw [List.getElem?_map,List.getElem?_range h];rfl
theorem Vg (f:Int):∀c∈jf f,97≤c∧c≤122:=fun c hc=>by
 obtain ⟨k,_,rfl⟩:=List.mem_map.mp hc;have a1:0≤(f + 5 * (k:Int)) % 26:=Int.emod_nonneg _ (by decide);have a2:(f + 5 * (k:Int)) % 26 < 26:=Int.emod_lt_of_pos _ (by decide);omega
theorem Jr {z:Str} {f:Int} (hz:z.cps.toList=jf f) {n:Nat} {x:Str} (hx:x∈sb z n):∃k,k < 8 - n∧x=sl z (n + 1) k∧x.cps.toList=((jf f).drop k).take (n + 1)∧x.cps.toList.length=n + 1:=by
 obtain ⟨k,hk,rfl⟩:=List.mem_map.mp hx;have hk:=List.mem_range.mp hk;have hl:z.length=8:=by
  have:=congrArg List.length hz;rw [show z.cps.toList.length=z.length by show _=z.cps.size;simp] at this;rw [this];simp [jf]
 have e:=yD (z:=z) (n:=n + 1) (k:=k) hl (by omega);rw [hz] at e;refine ⟨k,hk,rfl,e,?_⟩;rw [e,List.length_take,List.length_drop,show (jf f).length=8 by simp [jf]];omega
theorem Js {z:Str} {f:Int} (hz:z.cps.toList=jf f):Names (subs z 8):=by
 refine ⟨?_,fun x hx=>?_⟩
 ·unfold subs;rw [List.nodup_iff_pairwise_ne,List.pairwise_flatMap];refine ⟨fun n hn=>?_,?_⟩
  ·have hn:=List.mem_range.mp hn;rw [←List.nodup_iff_pairwise_ne];refine jl fun i j hi hj e=>?_
   have hl:z.length=8:=by
    have:=congrArg List.length hz;rw [show z.cps.toList.length=z.length by show _=z.cps.size;simp] at this;rw [this];simp [jf]
   have e1:=congrArg (fun z:Str=>z.cps.toList[0]?) e;simp only [yD (z:=z) (n:=n + 1) (k:=i) hl (by omega),yD (z:=z) (n:=n + 1) (k:=j) hl (by omega),hz] at e1;rw [List.getElem?_take_of_lt (Nat.succ_pos n),List.getElem?_take_of_lt (Nat.succ_pos n),List.getElem?_drop,List.getElem?_drop,Nat.add_zero,Nat.add_zero,La (by omega),La (by omega)] at e1;have e2:=Option.some.inj e1;have a1:0≤(f + 5 * (i:Int)) % 26:=Int.emod_nonneg _ (by decide);have a2:0≤(f + 5 * (j:Int)) % 26:=Int.emod_nonneg _ (by decide);have:=yC (n:=26) (s:=5) (u:=21) (f:=f) (i:=i) (j:=j) (by decide) (by decide) (by omega) (by omega) (by omega) (by omega) (by omega);omega
  ·refine List.Pairwise.imp (R:=(· < ·)) (fun {a b} hab x hx y hy e=>?_) List.pairwise_lt_range;obtain ⟨_,_,_,_,l1⟩:=Jr hz hx;obtain ⟨_,_,_,_,l2⟩:=Jr hz hy;rw [e] at l1;omega
 ·obtain ⟨n,hn,hx⟩:=List.mem_flatMap.mp hx;have hn:=List.mem_range.mp hn;obtain ⟨k,hk,_,e,hl⟩:=Jr hz hx;refine CZ rfl (by omega) (by omega) fun c hc=>?_
  rw [e] at hc;exact Vg f c (List.mem_of_mem_drop (List.mem_of_mem_take hc))
theorem GC (z:Str):(subs z 8).length=36:=by
 unfold subs sb;simp only [List.length_flatMap,List.length_map,List.length_range];rfl
end L2
namespace L2
section
variable {β:Type} [DecidableEq β] {ws:List (Int×β×β)} {s:β}
inductive yE (ws:List (Int×β×β)):β→List Int→β→Prop
 | nil (p:β):yE ws p [] p
 | cons {n:Int} {p q s:β} {r:List Int}:(n,p,q)∈ws→yE ws q r s→yE ws p (n::r) s
def oA (st:List (β×Int)) (p:β):Option Int:=(st.find? fun x=>decide (x.1=p)).map (·.2)
theorem dO {st:List (β×Int)} {p:β}:oA st p=none ↔ p∉st.map (·.1):=by
 unfold oA;rw [Option.map_eq_none_iff,List.find?_eq_none];simp only [List.mem_map,not_exists,not_and,decide_eq_true_eq]
theorem wg (st:List (β×Int)) (new:List β) (k:Int) (p:β):oA (st++new.map fun g=>(g,k)) p=if p∈st.map (·.1) then oA st p else if p∈new then some k else none:=by
 unfold oA;rw [List.find?_append];by_cases h:p∈st.map (·.1)
 ·rw [if_pos h];obtain ⟨x,hx,rfl⟩:=List.mem_map.mp h;cases e:st.find? fun y=>decide (y.1=x.1) with
  | none=>exact absurd (decide_eq_true rfl) (List.find?_eq_none.mp e x hx)
  | some y=>rfl
 ·rw [if_neg h,(Option.map_eq_none_iff.mp (dO.mpr h):st.find? _=none),Option.none_or];induction new with
  | nil=>rfl
  | cons g new ih=>
   rw [List.map_cons,List.find?_cons];by_cases e:g=p
   ·subst e;rw [decide_eq_true rfl,if_pos List.mem_cons_self];rfl
   ·rw [decide_eq_false e,ih];have:p∈g::new ↔ p∈new:=by rw [List.mem_cons];exact ⟨fun z=>z.resolve_left fun z=>e z.symm,.inr⟩
    simp only [this]
structure Rv (ws:List (Int×β×β)) (s:β) (st:List (β×Int)) (new:List β) (k:Nat):Prop where
 sound:∀p d,oA st p=some d→d≤k∧∃r,yE ws p r s∧(r.length:Int)=d
 whole:∀p r,yE ws p r s→r.length≤k→∃d,oA st p=some d∧d≤r.length
 last:∀p,p∈new ↔ oA st p=some (k:Int)
 nd:(st.map (·.1)).Nodup
 sub:∀p∈st.map (·.1),p=s∨p∈ws.map (·.2.1)
 low:∀p d,oA st p=some d→d + 1≤st.length
theorem Rv.init (ws:List (Int×β×β)) (s:β):Rv ws s [(s,0)] [s] 0 where
 sound p d h:=by
  unfold oA at h;rw [List.find?_cons] at h;by_cases e:s=p
  ·subst e;rw [decide_eq_true rfl] at h;cases h;exact ⟨Int.le_refl _,[],.nil _,rfl⟩
  ·rw [decide_eq_false e] at h;cases h
 whole p r h l:=by
  cases h with
  | nil=>exact ⟨0,by unfold oA;rw [List.find?_cons,decide_eq_true rfl];rfl,Int.le_refl _⟩
  | cons _ _=>exact absurd l (Nat.not_succ_le_zero _)
 last p:=by
  unfold oA;rw [List.find?_cons,List.mem_singleton];by_cases e:s=p
  ·subst e;rw [decide_eq_true rfl];exact ⟨fun _=>rfl,fun _=>rfl⟩
  ·rw [decide_eq_false e];exact ⟨fun z=>absurd z.symm e,fun z=>nomatch z⟩
 nd:=by simp
 sub p hp:=.inl (List.mem_singleton.mp hp)
 low p d h:=by
  unfold oA at h;rw [List.find?_cons] at h;by_cases e:s=p
  ·rw [decide_eq_true e] at h;cases h;exact Int.le_refl _
  ·rw [decide_eq_false e] at h;cases h
theorem Rv.step {st:List (β×Int)} {new new':List β} {k:Nat} (B:Rv ws s st new k) (hn:new'.Nodup) (hm:∀g,g∈new' ↔ ∃w∈ws,w.2.2∈new∧w.2.1∉st.map (·.1)∧w.2.1=g):Rv ws s (st++new'.map fun g=>(g,(k:Int) + 1)) new' (k + 1) where
 sound p d h:=by
  rw [wg] at h;split at h
  ·obtain ⟨h1,h2⟩:=B.sound p d h;exact ⟨by omega,h2⟩
  ·split at h
   ·rename_i m;cases h;refine ⟨by omega,?_⟩;obtain ⟨w,m1,m2,m3,rfl⟩:=(hm p).mp m;obtain ⟨_,r,h3,h4⟩:=B.sound _ _ ((B.last _).mp m2);exact ⟨w.1::r,.cons (p:=w.2.1) (q:=w.2.2) m1 h3,by rw [List.length_cons];omega⟩
   ·cases h
 whole p r h l:=by
  rw [wg];by_cases hp:p∈st.map (·.1)
  ·rw [if_pos hp];cases e:oA st p with
   | none=>exact absurd hp (dO.mp e)
   | some d=>
    refine ⟨d,rfl,?_⟩;by_cases l':r.length≤k
    ·obtain ⟨d',e',h'⟩:=B.whole p r h l';rw [e] at e';cases e';exact h'
    ·have:=(B.sound p d e).1;omega
  ·rw [if_neg hp];cases h with
   | nil=>
    obtain ⟨d,e,_⟩:=B.whole s [] (.nil s) (Nat.zero_le _);rw [dO.mpr hp] at e;cases e
   | cons hw hr=>
    rename_i n q r;rw [List.length_cons] at l ⊢;obtain ⟨d,e,hd⟩:=B.whole q r hr (by omega);obtain ⟨hk,r2,hr2,l2⟩:=B.sound q d e;by_cases hdk:d=k
    ·subst hdk;have m:p∈new':=(hm p).mpr ⟨_,hw,(B.last q).mpr e,hp,rfl⟩;rw [if_pos m];exact ⟨_,rfl,by omega⟩
    ·obtain ⟨d',e',_⟩:=B.whole p (n::r2) (.cons hw hr2) (by rw [List.length_cons];omega);rw [dO.mpr hp] at e';cases e'
 last p:=by
  rw [wg];constructor
  ·intro m;obtain ⟨w,m1,m2,m3,rfl⟩:=(hm p).mp m;rw [if_neg m3,if_pos m];rfl
  ·intro e;split at e
   ·have:=(B.sound p _ e).1;omega
   ·split at e
    ·rename_i m;exact m
    ·cases e
 nd:=by
  rw [List.map_append,List.map_map,show ((fun x:β×Int=>x.1) ∘ fun g=>(g,(k:Int) + 1))=id from rfl,List.map_id];refine List.nodup_append.mpr ⟨B.nd,hn,fun a ha b hb e=>?_⟩;subst e;obtain ⟨w,_,_,m3,rfl⟩:=(hm a).mp hb;exact m3 ha
 sub p hp:=by
  rw [List.map_append,List.map_map,show ((fun x:β×Int=>x.1) ∘ fun g=>(g,(k:Int) + 1))=id from rfl,List.map_id] at hp;rcases List.mem_append.mp hp with hp | hp
  ·exact B.sub p hp
  ·obtain ⟨w,m1,_,_,rfl⟩:=(hm p).mp hp;exact .inr (List.mem_map.mpr ⟨w,m1,rfl⟩)
 low p d h:=by
  rw [wg] at h;rw [List.length_append,List.length_map];split at h
  ·have:=B.low p d h;omega
  ·split at h
   ·rename_i m;cases h;obtain ⟨w,m1,m2,m3,rfl⟩:=(hm p).mp m;have:=B.low _ _ ((B.last _).mp m2);have:=List.length_pos_of_mem m;omega
   ·cases h
theorem len_sub:∀{l m:List β},l.Nodup→(∀x∈l,x∈m)→l.length≤m.length
 | [],_,_,_=>Nat.zero_le _
 | a::l,m,hn,h=>by
  have ha:=h a List.mem_cons_self;have:=len_sub (m:=m.erase a) (List.nodup_cons.mp hn).2 fun x hx=>(List.mem_erase_of_ne (show x≠a from fun z=>(List.nodup_cons.mp hn).1 (z ▸ hx))).mpr (h x (List.mem_cons_of_mem _ hx))
  rw [List.length_erase_of_mem ha] at this;have:=List.length_pos_of_mem ha;rw [List.length_cons];omega
theorem Rv.few {st:List (β×Int)} {new:List β} {k:Nat} (B:Rv ws s st new k):st.length≤ws.length + 1:=by
 have h:(st.map (·.1)).length≤(s::ws.map (·.2.1)).length:=by
  refine len_sub B.nd fun p hp=>?_
  rcases B.sub p hp with rfl | h
  ·exact List.mem_cons_self
  ·exact List.mem_cons_of_mem _ h
 simpa using h
structure Nv (ws:List (Int×β×β)) (s:β) (st:List (β×Int)):Prop where
 sound:∀p d,oA st p=some d→∃r,yE ws p r s∧(r.length:Int)=d
 whole:∀p r,yE ws p r s→∃d,oA st p=some d∧d≤r.length
 few:∀p d,oA st p=some d→d≤ws.length
 nd:(st.map (·.1)).Nodup
theorem Rv.done {st:List (β×Int)} {k:Nat} (B:Rv ws s st [] k):Nv ws s st where
 sound p d h:=(B.sound p d h).2
 nd:=B.nd
 few p d h:=by
  have:=B.low p d h;have:=B.few;omega
 whole p r h:=by
  induction h with
  | nil p=>exact B.whole p [] (.nil p) (Nat.zero_le _)
  | cons hw hr ih=>
   rename_i n p q s' r;obtain ⟨d,e,hd⟩:=ih B;obtain ⟨hk,r2,hr2,l2⟩:=B.sound q d e;have:d≠k:=fun z=>by
    subst z;exact nomatch (B.last q).mpr e
   obtain ⟨d',e',h'⟩:=B.whole p (n::r2) (.cons hw hr2) (by rw [List.length_cons];omega);refine ⟨d',e',?_⟩;rw [List.length_cons] at h' ⊢;omega
theorem Nv.self {st:List (β×Int)} (B:Nv ws s st):oA st s=some 0:=by
 obtain ⟨d,e,h⟩:=B.whole s [] (.nil s);obtain ⟨r,_,l⟩:=B.sound s d e;rw [e];simp only [List.length_nil] at h;congr 1;omega
theorem Nv.iff {st:List (β×Int)} (B:Nv ws s st) (p:β):p∈st.map (·.1) ↔ ∃r,yE ws p r s:=by
 constructor
 ·intro h;cases e:oA st p with
  | none=>exact absurd h (dO.mp e)
  | some d=>
   obtain ⟨r,h,_⟩:=B.sound p d e;exact ⟨r,h⟩
 ·rintro ⟨r,h⟩;obtain ⟨d,e,_⟩:=B.whole p r h;apply Classical.byContradiction;intro n;rw [dO.mpr n] at e;cases e
def YC (ws:List (Int×β×β)) (a b:β):Prop:=∃r,yE ws a r b
theorem yE.snoc {a b c:β} {n:Int} {r:List Int} (h:yE ws a r b) (hw:(n,b,c)∈ws):yE ws a (r++[n]) c:=by
 induction h with
 | nil p=>exact .cons hw (.nil _)
 | cons h1 _ ih=>exact .cons h1 (ih hw)
def mG (w:Int×β×β):Int×β×β:=(w.1,w.2.2,w.2.1)
theorem tY {n:Int} {a b:β}:(n,a,b)∈ws.map mG ↔ (n,b,a)∈ws:=by
 rw [List.mem_map];constructor
 ·rintro ⟨w,h,e⟩;injection e with e1 e2
  injection e2 with e2 e3
  subst e1 e2 e3;exact h
 ·exact fun h=>⟨_,h,rfl⟩
theorem yE.turn {a b:β} {r:List Int} (h:yE (ws.map mG) a r b):yE ws b r.reverse a:=by
 induction h with
 | nil p=>exact .nil p
 | cons h1 _ ih=>
  rw [List.reverse_cons];exact ih.snoc (tY.mp h1)
theorem yE.Dc {a b:β} {r:List Int} (h:yE ws a r b):yE (ws.map mG) b r.reverse a:=by
 induction h with
 | nil p=>exact .nil p
 | cons h1 _ ih=>
  rw [List.reverse_cons];exact ih.snoc (tY.mpr h1)
theorem Nv.Rw {st:List (β×Int)} (B:Nv (ws.map mG) s st) {p:β} (h:YC ws s p):∃r,yE ws s r p∧r.length≤ws.length:=by
 obtain ⟨r,h⟩:=h;obtain ⟨d,e,_⟩:=B.whole p _ h.Dc;obtain ⟨r',h',l⟩:=B.sound p d e;have:=B.few p d e;rw [List.length_map] at this;exact ⟨_,h'.turn,by rw [List.length_reverse];omega⟩
theorem Nv.keys {st:List (β×Int)} (B:Nv (ws.map mG) s st) (p:β):p∈st.map (·.1) ↔ YC ws s p:=by
 rw [B.iff p];exact ⟨fun ⟨r,h⟩=>⟨_,h.turn⟩,fun ⟨r,h⟩=>⟨_,h.Dc⟩⟩
theorem Ak:∀{l m:List β},l.Nodup→m.Nodup→(∀x,x∈l ↔ x∈m)→l.Perm m
 | [],m,_,_,h=>by
  cases m with
  | nil=>exact .refl _
  | cons x _=>exact absurd ((h x).mpr List.mem_cons_self) List.not_mem_nil
 | a::l,m,hl,hm,h=>by
  have ha:=(h a).mp List.mem_cons_self;refine ((Ak (m:=m.erase a) (List.nodup_cons.mp hl).2 (hm.erase a) fun x=>?_).cons a).trans (List.perm_cons_erase ha).symm;constructor
  ·intro hx;have ne:x≠a:=fun z=>(List.nodup_cons.mp hl).1 (z ▸ hx)
   exact (List.mem_erase_of_ne ne).mpr ((h x).mp (List.mem_cons_of_mem _ hx))
  ·intro hx;have hx':=(h x).mpr (List.mem_of_mem_erase hx);rcases List.mem_cons.mp hx' with rfl | hx'
   ·exact absurd hx (List.Nodup.not_mem_erase hm)
   ·exact hx'
def lexLe:List Int→List Int→Prop
 | [],_=>True
 | _::_,[]=>False
 | a::r,b::q=>a < b∨(a=b∧lexLe r q)
theorem yF:∀{r q:List Int},r.length=q.length→lexLe r q→lexLe q r→r=q
 | [],[],_,_,_=>rfl
 | a::r,b::q,l,h,h'=>by
  have e:a=b:=by rcases h with h | h <;> rcases h' with h' | h' <;> omega
  subst e;rw [yF (Nat.succ.inj l) (h.resolve_left (by omega)).2 (h'.resolve_left (by omega)).2]
def kO (ws:List (Int×β×β)) (p s:β) (r:List Int):Prop:=yE ws p r s∧∀r',yE ws p r' s→r.length < r'.length∨(r.length=r'.length∧lexLe r r')
theorem kO.unique {p:β} {r r':List Int} (h:kO ws p s r) (h':kO ws p s r'):r=r':=by
 rcases h.2 r' h'.1 with l | ⟨l,a⟩
 ·rcases h'.2 r h.1 with l' | ⟨l',_⟩ <;> omega
 ·rcases h'.2 r h.1 with l' | ⟨_,b⟩
  ·omega
  ·exact yF l a b
theorem kO.self (ws:List (Int×β×β)) (s:β):kO ws s s []:=⟨.nil s,fun r' _=>by
 cases r' with
 | nil=>exact .inr ⟨rfl,trivial⟩
 | cons _ _=>exact .inl (Nat.succ_pos _)⟩
theorem kO.go {p q:β} {n d:Int} {r:List Int} {st:List (β×Int)} (hU:∀w∈ws,∀w'∈ws,w.1=w'.1→w=w') (B:Nv ws s st) (hp:oA st p=some d) (hw:(n,p,q)∈ws) (hq:∃e,oA st q=some e∧e < d) (hmin:∀n' q' e,(n',p,q')∈ws→oA st q'=some e→e < d→n≤n') (hr:kO ws q s r):kO ws p s (n::r):=by
 obtain ⟨e,hq,hlt⟩:=hq;obtain ⟨r1,hr1,l1⟩:=B.sound q e hq;have hle:r.length≤r1.length:=by rcases hr.2 r1 hr1 with h | h <;> omega
 refine ⟨.cons hw hr.1,fun r' h'=>?_⟩;obtain ⟨d',e',hd'⟩:=B.whole p r' h';rw [hp] at e';cases e';rw [List.length_cons];cases h' with
 | nil=>
  simp only [List.length_nil] at hd';omega
 | cons hw' hr'=>
  rename_i n' q' r';rw [List.length_cons] at hd' ⊢;obtain ⟨e2,h2,l2⟩:=B.whole q' r' hr';by_cases hl:r.length < r'.length
  ·exact .inl (by omega)
  ·refine .inr ⟨by omega,?_⟩;have hn:=hmin n' q' e2 hw' h2 (by omega);by_cases hnn:n < n'
   ·exact .inl hnn
   ·have:n=n':=by omega
    subst this;have:=hU _ hw _ hw' rfl;cases this;refine .inr ⟨rfl,?_⟩;rcases hr.2 r' hr' with h | h
    ·omega
    ·exact h.2
end
end L2
namespace L2
open PySem PySem.Spec PyProof.Rows PySem.W
def aag (i j k:Nat) (ta:TA):TS:=fun D σ H=>ta σ H fun vs H1=>vs.length=3∧(∀v w z,vs=[v,w,z]→D.nx (((σ.set i (some v)).set j (some w)).set k (some z)) H1)
section
variable {X:Cx} {pos:Pos}
theorem Vh {i j k:Nat} {x y z:Str} {a b c:Expr} {ta:TA} {px py pz pt:Pos} {kt k2 Ho} (hc:X.calm=true) (hN:X.N.Nodup) (hi:X.N[i]?=some x) (hj:X.N[j]?=some y) (hk:X.N[k]?=some z) (hij:i≠j) (hik:i≠k) (hjk:j≠k)
  (hx:X.env.scope.names.lookup x=some .local) (hy:X.env.scope.names.lookup y=some .local) (hz:X.env.scope.names.lookup z=some .local) (ha:PA X [a,b,c] ta)
  (hw:swappedStores [.Tuple [.Name x px,.Name y py,.Name z pz] kt pt] (.Tuple [a,b,c] k2 Ho) X.env=pure (some [x,y,z]))
  (hs:swapsWithSole [.Tuple [.Name x px,.Name y py,.Name z pz] kt pt] (.Tuple [a,b,c] k2 Ho) pos.line X.env=pure false:=by rfl):
  PS X (.Assign [.Tuple [.Name x px,.Name y py,.Name z pz] kt pt] (.Tuple [a,b,c] k2 Ho) pos) (aag i j k ta):=by
 intro pins s σ H D I h;rw [exec_Assign_arm];refine wpAny_bind (wpAny_standAt ?_);rw [hs];refine wpAny_bind (wpAny_pure ?_);rw [if_neg (by decide)];refine wpAny_bind (Tuple_ (cX (ha _ pins s σ H _ I h) fun us s1 aZ=>?_));obtain ⟨vs,H1,I1,r1,l1,q1⟩:=aZ;cases r1 with
 | nil=>cases l1
 | cons rv r1=>
 cases r1 with
 | nil=>cases l1
 | cons rw' r1=>
 cases r1 with
 | nil=>cases l1
 | cons rz r1=>
 cases r1 with
 | cons _ _=>cases l1
 | nil=>
 rename_i v u1 w u2 zz u3;refine wpAny_newObj_type ?_ (by show 3≤sizeLine;decide);have I2:Inv X pins σ H1 { s1 with heap:=s1.heap.push { cls:=.type "tuple",data:=.seq [u1,u2,u3].toArray } }:=I1.kept (t':=s1.toks) fun b o e=>Heap.get?_push_of_some _ e
 rw [hw];refine wpAny_bind (wpAny_pure ?_);show wpAny (model X.prog X.w) X.A (do rule "assign.swapped-stores";let items ←unpackItems (.ref s1.heap.objs.size) 3 none;assignInOrder [fun v=>bindName X.env z v,fun v=>bindName X.env y v,fun v=>bindName X.env x v] items.reverse;pure Flow.next) _ _ _;refine wpAny_bind (wpAny_rule (wpAny_bind (unpackItems_tuple (items:=#[u1,u2,u3]) (I.ok.hd hc) (IsTup.new s1.heap _) fun h' hx'=>?_)));have I3:=I2.kept (h':=h') (t':=s1.toks) fun b o e=>hx' b o (Nat.ne_of_lt (Heap.lt_size e)) e
 show wpAny _ _ (assignInOrder [fun v=>bindName X.env z v,fun v=>bindName X.env y v,fun v=>bindName X.env x v] [u3,u2,u1] >>= fun _=>pure Flow.next) _ _ _;refine wpAny_bind (assignInOrder_cons (wpAny_bindName (fK I3 hN hk (.inl hz) rz (fun s2 I4=>?_) (.inr hz))));refine assignInOrder_cons (wpAny_bindName (fK I4 hN hj (.inl hy) rw' (fun s3 I5=>?_) (.inr hy)));refine assignInOrder_cons (wpAny_bindName (fK I5 hN hi (.inl hx) rv (fun s4 I6=>assignInOrder_nil (wpAny_pure ?_)) (.inr hx)));rw [List.set_comm _ _ (Ne.symm hij),List.set_comm _ _ (Ne.symm hik),List.set_comm _ _ (Ne.symm hjk)] at I6;exact ⟨_,H1,I6,q1 _ _ _ rfl⟩
theorem Vi {i j k:Nat} {x y z:Str} {a b c:Expr} {g:FA} {px py pz pt:Pos} {kt k2 Ho} (hc:X.calm=true) (hN:X.N.Nodup) (hi:X.N[i]?=some x) (hj:X.N[j]?=some y) (hk:X.N[k]?=some z) (hij:i≠j) (hik:i≠k) (hjk:j≠k)
  (hx:X.env.scope.names.lookup x=some .local) (hy:X.env.scope.names.lookup y=some .local) (hz:X.env.scope.names.lookup z=some .local) (ha:PA X [a,b,c] (V4 X.K g))
  (hw:swappedStores [.Tuple [.Name x px,.Name y py,.Name z pz] kt pt] (.Tuple [a,b,c] k2 Ho) X.env=pure (some [x,y,z]))
  (hs:swapsWithSole [.Tuple [.Name x px,.Name y py,.Name z pz] kt pt] (.Tuple [a,b,c] k2 Ho) pos.line X.env=pure false:=by rfl):
  PS X (.Assign [.Tuple [.Name x px,.Name y py,.Name z pz] kt pt] (.Tuple [a,b,c] k2 Ho) pos) (tS X.K (fPar [i,j,k] g)):=(Vh hc hN hi hj hk hij hik hjk hx hy hz ha hw hs).weak fun D σ H aZ=>by
 obtain ⟨Z,Θ,env,C,fl,env',C',S,hf,q⟩:=aZ;unfold fPar at hf;split at hf
 case h_2=>cases hf
 rename_i xs e1 C1 h1;split at hf
 case isFalse=>cases hf
 rename_i hl;cases hf;refine ⟨Z,Θ,env,C,xs,e1,C',S,h1,fun vs as H1 k1 f1 n1 S1 a1=>⟨by rw [vW a1,←hl.1];rfl,fun v w zz e=>?_⟩⟩;obtain ⟨S2,o2⟩:=BX a1 hl.1 (bu.refl _) S1;subst e;refine q Θ _ H1 ⟨zA.refl _ _,jq k1,fun b m=>?_,S2⟩;rcases o2 b m with m | m
 ·exact .inl (f1.own.subset m)
 ·exact .inr (n1 b m)
end
theorem Rx {P:Program} {w:World} {kvs:List (Key×V)} {vs:List (Key×Value)} (rel:KV kvs vs):∀{us:List Value},us.length=vs.length→(∀(i:Nat) (v:Value),us[i]?=some v→∃k x,vs[i]?=some (k,x)∧(cL P w).is k v=true)→Vals (kvs.map fun kv=>kV kv.1) us:=by
 induction rel with
 | nil=>
  intro us h2 h3;cases us with
  | nil=>exact .nil
  | cons _ _=>cases h2
 | @cons p w ps ws hp _ ih=>
  intro us h2 h3;cases us with
  | nil=>cases h2
  | cons u us=>
   refine .cons ?_ (ih (Nat.succ.inj h2) fun i v e=>h3 (i + 1) v e);obtain ⟨k,x,e1,e2⟩:=h3 0 u rfl;have ek:k=p.1:=by rw [hp.1];exact congrArg Prod.fst (Option.some.inj e1.symm)
   subst ek;exact Aj e2
section
variable {X:Cx}
theorem gK (hc:X.calm=true):cY X (.builtin "sorted") (fun xs H Q=>∃(d:Addr) (kvs:List (Key×V)) (ns:List Str),xs=[.ref d]∧H d=some (.dK kvs)∧kvs.map (·.1)=ns.map .inr∧ns.length < 64∧∀(l:Addr) (ns':List Str),H l=none→ns'.Perm ns→sortedS ns'=true→Q (.ref l) (upd H l (.lst (ns'.map V.str)))):=by
 intro pins s σ H xs us Q I r h;obtain ⟨d,kvs,ns,rfl,hd,hns,few,q⟩:=h;obtain ⟨u,rfl,ru⟩:=vals1 r;cases ru;obtain ⟨z,lo,vs,rel,dd⟩:=I.hok d _ hd;obtain ⟨ep,da⟩:=dd.dictAt;have lv:vs.length=kvs.length:=(Paired.length rel).symm;have ln:kvs.length=ns.length:=by have:=congrArg List.length hns;simpa using this
 refine Calls.call_function_entry kind_sorted plain_sorted entry_sorted (args_sorted1 _) ?_;unfold Builtin.«sorted»;refine wpAny_bind (m:=checkCount "sorted" 1 1 _) (wpAny_pure (wpAny_bind (vh (A:=X.A.in1) (kdl_dict (knd:=cL X.prog X.w) (ep:=ep) lo) (I.ok.hd hc) da (by rw [lv];exact z) fun h1 tk acc hsz kk hacc=>?_)));have hV:=Rx (P:=X.prog) (w:=X.w) rel (us:=acc.toList) (by rw [Array.length_toList];exact hacc.1) fun i v e=>hacc.2 i v (by rw [←Array.getElem?_toList];exact e)
 have hV:Vals (ns.map V.str) acc.toList:=by
  rw [show ns.map V.str=(ns.map Sum.inr).map kV by rw [List.map_map];rfl,←hns,List.map_map];exact hV
 have hS:StrsAre acc.toList ns:=mW hV;have lu:acc.toList.length=ns.length:=by rw [←hV.length,List.length_map]
 refine wpAny_bind (wpAny_newList ?_ (by rw [sizeLine_eq];omega));have gL:(h1.push (seqObj "list" acc.toList.toArray 0)).get? h1.objs.size=some (seqObj "list" acc.toList.toArray 0):=Heap.get?_push_size _ rfl;refine wpAny_bind (wpAny_holding (wpAny_call_entry slot_list_sort ⟨_,gL,rfl⟩ entry_list_sort (list_sort_treeK strKind_oneLt gL hS.keysOf (fun v1 v2 rest e=>keyKind_strs (by rw [←e];exact hS)) (by omega) fun st hp1 hp2=>⟨_,rfl,?_⟩) (args_list_sort _)));obtain ⟨ns',b1,b2,b3⟩:=sorted_out_str hS hp1 hp2;obtain ⟨c,gD⟩:=sortedHeap_at (out:=(arrOf st).map (·.2)) gL;have kb:∀b o,s.heap.get? b=some o→(sortedHeap (h1.push (seqObj "list" acc.toList.toArray 0)) h1.objs.size acc.toList ((arrOf st).map (·.2))).get? b=some o:=fun b o e=>by
  have lb:b < h1.objs.size:=Heap.lt_size (kk b o e);rw [sortedHeap_old (Nat.ne_of_lt lb) (by rw [Heap.size_push];exact Nat.lt_succ_of_lt lb)];exact Heap.get?_push_of_some _ (kk b o e)
 exact wpAny_pure ⟨_,rfl,.ref h1.objs.size,_,I.laid (o:=.lst (ns'.map V.str)) (t':=tk) kb hsz ⟨by rw [List.length_map,b2.length_eq,sizeLine_eq];omega,((arrOf st).map (·.2)).toList,c,pX b1,by rw [Array.toArray_toList];exact gD⟩,rfl,q _ ns' (I.hok.fresh hsz) b2 b3⟩
def kW:List PyData→Option Vl
 | [.dict kvs]=>(strsOf (kvs.map (·.1))).bind fun ns=>bif decide (ns.length < 64) then some (.ow (.list ((ir strLt ns).map .str))) else none
 | _=>none
theorem Al:∀{kvs:List (PyData×PyData)} {ns:List Str},strsOf (kvs.map (·.1))=some ns→cM c7 kvs=some (ns.map .inr)
 | [],ns,h=>by cases h;rfl
 | (.str z,v)::kvs,ns,h=>by
  obtain ⟨ns',h1,rfl⟩:∃ns',strsOf (kvs.map (·.1))=some ns'∧ns=z::ns':=by
   have h:(strsOf (PyData.str z::kvs.map (·.1)))=some ns:=h;unfold strsOf at h;cases e:strsOf (kvs.map (·.1)) with
   | none=>rw [e] at h;cases h
   | some t=>rw [e] at h;cases h;exact ⟨t,rfl,rfl⟩
  show cM c7 ((.str z,v)::kvs)=_;unfold cM;rw [Al h1];rfl
 | (.none,v)::kvs,ns,h=>by cases h
 | (.bool _,v)::kvs,ns,h=>by cases h
 | (.int _,v)::kvs,ns,h=>by cases h
 | (.list _,v)::kvs,ns,h=>by cases h
 | (.tuple _,v)::kvs,ns,h=>by cases h
 | (.dict _,v)::kvs,ns,h=>by cases h
theorem tZ {K:PySem.W.Frag}:BR K (fun xs H Q=>∃(d:Addr) (kvs:List (Key×V)) (ns:List Str),xs=[.ref d]∧H d=some (.dK kvs)∧kvs.map (·.1)=ns.map .inr∧ns.length < 64∧∀(l:Addr) (ns':List Str),H l=none→ns'.Perm ns→sortedS ns'=true→Q (.ref l) (upd H l (.lst (ns'.map V.str)))) kW:=by
 intro Z Θ env C σ H xs ds res S b e Q q;refine hide fun GG gg=>?_
 unfold kW at e;split at e
 case h_2=>cases e
 rename_i kvs;obtain ⟨ns,hns,e⟩:=cg e;cases hl:decide (ns.length < 64) with
 | false=>rw [hl] at e;cases e
 | true=>
 rw [hl] at e;cases e;have hl:=of_decide_eq_true hl;obtain ⟨v,rfl,bb⟩:=nQ b;obtain ⟨a,vs,rfl,da,r⟩:=bb.dct;have hk:=Al hns;rcases da with ⟨ks,h1,ha⟩ | ⟨ks,⟨ne,h2⟩,ha⟩
 ·rw [hk] at h1;cases h1;have lz:vs.length=(ns.map (Sum.inr:Str→Key)).length:=by rw [sV r,jb hk]
  refine gg ⟨a,_,ns,rfl,ha,by rw [List.map_fst_zip (by omega)],hl,fun l ns' hn p hp=>?_⟩;rw [Jg p hp];exact q _ _ (bY.upd hn) (fV S (xK _) hn)
 ·exact absurd (jK hk h2) ne
end
section
variable {X:Cx} {l de:Expr} {tl td:TE} {p pos kp:Pos}
end
inductive cW (K:PySem.W.Frag) (x:Str) (st:Stmt):Prop
 | mk {f:Addr} {oc:Value} {od an:Option Addr} {osl:Array (Option Value)} {kV doc pm cdv ct:Value} (a:PySem.W.nsIn K mainGlobals x=some (some (.ref f))) (l:K.lookup f=some ⟨oc,od,.func (PySem.W.fnOf x x (pU st) (kE st) (aN st) .none kV doc pm an cdv ct),osl⟩) (c:PySem.W.codeIn K cdv x=true) (k:PySem.W.keepIn K (.ref f)=true):cW K x st
abbrev Jt (x:Str) (st:Stmt) (ps:List Str):Prop:=∀(kV doc pm:Value) (an:Option Addr) (cdv ct:Value) (us:List Value),us.length=ps.length→bindArgs (PySem.W.fnOf x x (pU st) (kE st) (aN st) .none kV doc pm an cdv ct) ⟨us,[]⟩=pure (ps.zip us)
section
variable {P:Program} {w:World} {K:PySem.W.Frag} {mg:Str→Option Value} {base h:Heap} {x:Str} {st:Stmt} {k:Nat} {ps:List Str} {sp:Sp}
theorem cW.has (d:cW K x st) (X:K.In h) (G:h.Ns mainGlobals mg) (o:∀f fd,pW K x x st f fd→cZ P w K mg base oh k f fd ps sp) (hb:Jt x st ps):j7 P w K mg base x k ps sp:=by
 obtain ⟨a,l,c,kp⟩:=d;have F:=HX l c kp;exact ⟨_,_,PySem.W.mg_of X G a,kp,F.binds hb,o _ _ F⟩
theorem cW.abS (d:cW K x st) (X:K.In h) (G:h.Ns mainGlobals mg) (o:∀f fd,mg x=some (.ref f)→PySem.W.keepIn K (.ref f)=true→Binds K fd ps []→pW K x x st f fd→j7 P w K mg base x k ps sp) (hb:Jt x st ps):j7 P w K mg base x k ps sp:=by
 obtain ⟨a,l,c,kp⟩:=d;have F:=HX l c kp;exact o _ _ (PySem.W.mg_of X G a) kp (F.binds hb) F
theorem cW.law {y:Str} {fa:Addr} (d:cW K x st) (X:K.In h) (G:h.Ns mainGlobals mg) (hfa:mg x=some (.ref fa)) (o:∀base f fd,pW K x x st f fd→cZ P w K mg base oh k f fd [y] sp) (hb:Jt x st [y]):
  ∃fd:FuncData,(∀(s:Shared) (v:Value),BindsTo s fd ⟨[v],[]⟩ [(y,v)])∧∀base:Heap,K.In base→base.Ns mainGlobals mg→cZ P w K mg base oh k fa fd [y] sp:=by
 obtain ⟨a,l,c,kp⟩:=d;have e:=hfa.symm.trans (PySem.W.mg_of X G a);cases e;exact ⟨_,fun s v=>.of_eq (hb _ _ _ _ _ _ [v] rfl),fun base _ _=>o base _ _ (HX l c kp)⟩
theorem wj {B:List Value→Prop} (h:B []):∀us:List Value,us.length=0→B us
 | [],_=>h
theorem gj {n:Nat} {B:List Value→Prop} (h:∀a,∀us:List Value,us.length=n→B (a::us)):∀us:List Value,us.length=n + 1→B us
 | a::us,e=>h a us (Nat.succ.inj e)
end
end L2
namespace K17
open PySem L2
def top (i:Nat):Stmt:=PySem.Challenge.pw_rankseals_k17_signers.main.body.getD i (.Pass ⟨0,0,0,0⟩)
abbrev jw:Stmt:=top 1
theorem iU:bO (["house","part","outer","over"]:List Str) (["house","part"]:List Str) (aN jw):=⟨rfl,rfl,rfl,by decide +kernel,rfl,by decide +kernel,by decide +kernel⟩
abbrev yG:Stmt:=top 3
theorem Nx:bO (["house","paper","holder","signer","day"]:List Str) (["house","paper","holder","signer","day"]:List Str) (aN yG):=⟨rfl,rfl,rfl,by decide +kernel,rfl,by decide +kernel,by decide +kernel⟩
abbrev jx:Stmt:=top 4
theorem qQ:bO (["house","paper","holder","day","turned"]:List Str) (["house","paper","holder","day"]:List Str) (aN jx):=⟨rfl,rfl,rfl,by decide +kernel,rfl,by decide +kernel,by decide +kernel⟩
abbrev uU:Stmt:=top 5
theorem Ju:bO (["paper","person"]:List Str) (["paper","person"]:List Str) (aN uU):=⟨rfl,rfl,rfl,by decide +kernel,rfl,by decide +kernel,by decide +kernel⟩
abbrev qj:Stmt:=top 6
theorem yH:bO (["house","paper","day","over"]:List Str) (["house","paper","day"]:List Str) (aN qj):=⟨rfl,rfl,rfl,by decide +kernel,rfl,by decide +kernel,by decide +kernel⟩
abbrev pB:Stmt:=top 7
theorem gM:bO (["ways","holder","signer","steps","row","number"]:List Str) (["ways","holder","signer"]:List Str) (aN pB):=⟨rfl,rfl,rfl,by decide +kernel,rfl,by decide +kernel,by decide +kernel⟩
abbrev jy:Stmt:=top 8
theorem zF:bO (["ways","steps","person"]:List Str) (["ways","steps","person"]:List Str) (aN jy):=⟨rfl,rfl,rfl,by decide +kernel,rfl,by decide +kernel,by decide +kernel⟩
abbrev m6:Stmt:=top 9
theorem fj:bO (["ways","signer","steps","newest","many","person"]:List Str) (["ways","signer"]:List Str) (aN m6):=⟨rfl,rfl,rfl,by decide +kernel,rfl,by decide +kernel,by decide +kernel⟩
abbrev Jv:Stmt:=top 11
theorem Lb:bO (["_law_cell","_law_k","_law_m"]:List Str) (["_law_cell","_law_k"]:List Str) (aN Jv):=⟨rfl,rfl,rfl,by decide +kernel,rfl,by decide +kernel,by decide +kernel⟩
abbrev lH:Stmt:=top 12
theorem pC:bO (["_law_script","_law_k","_law_cell"]:List Str) (["_law_script","_law_k"]:List Str) (aN lH):=⟨rfl,rfl,rfl,by decide +kernel,rfl,by decide +kernel,by decide +kernel⟩
abbrev Dd:Stmt:=top 13
theorem GD:bO (["_law_left","_law_many","_law_digit"]:List Str) (["_law_left","_law_many"]:List Str) (aN Dd):=⟨rfl,rfl,rfl,by decide +kernel,rfl,by decide +kernel,by decide +kernel⟩
abbrev uc:Stmt:=top 14
theorem Ry:bO (["_law_found","_law_due"]:List Str) (["_law_found","_law_due"]:List Str) (aN uc):=⟨rfl,rfl,rfl,by decide +kernel,rfl,by decide +kernel,by decide +kernel⟩
abbrev cQ:Stmt:=top 15
theorem bJ:bO (["_law_left","_law_many","_law_letters","_law_head","_law_tail","_law_first","_law_by","_law_stem","_law_found","_law_size","_law_k","_law_value","_law_two"]:List Str) (["_law_left","_law_many"]:List Str) (aN cQ):=⟨rfl,rfl,rfl,by decide +kernel,rfl,by decide +kernel,by decide +kernel⟩
abbrev pD:Stmt:=top 16
theorem ud:bO (["_law_left","_law_first"]:List Str) (["_law_left"]:List Str) (aN pD):=⟨rfl,rfl,rfl,by decide +kernel,rfl,by decide +kernel,by decide +kernel⟩
abbrev pF:Stmt:=top 17
theorem De:bO (["_law_left"]:List Str) (["_law_left"]:List Str) (aN pF):=⟨rfl,rfl,rfl,by decide +kernel,rfl,by decide +kernel,by decide +kernel⟩
abbrev lJ:Stmt:=top 18
theorem gO:bO (["_law_left","_law_names","_law_found","_law_k","_law_name"]:List Str) (["_law_left","_law_names"]:List Str) (aN lJ):=⟨rfl,rfl,rfl,by decide +kernel,rfl,by decide +kernel,by decide +kernel⟩
abbrev lK:Stmt:=top 19
theorem jU:bO (["_law_parts","_law_part","_law_found"]:List Str) (["_law_parts","_law_part"]:List Str) (aN lK):=⟨rfl,rfl,rfl,by decide +kernel,rfl,by decide +kernel,by decide +kernel⟩
abbrev uV:Stmt:=top 20
theorem m7:bO (["_law_left","_law_many","_law_found","_law_last","_law_k"]:List Str) (["_law_left","_law_many"]:List Str) (aN uV):=⟨rfl,rfl,rfl,by decide +kernel,rfl,by decide +kernel,by decide +kernel⟩
abbrev jV:Stmt:=top 21
theorem cj:bO (["_law_left","_law_parts","_law_people","_law_many","_law_paper","_law_day","_law_found","_law_over","_law_number","_law_at","_law_to","_law_part","_law_days","_law_most"]:List Str) (["_law_left","_law_parts","_law_people","_law_many","_law_paper","_law_day"]:List Str) (aN jV):=⟨rfl,rfl,rfl,by decide +kernel,rfl,by decide +kernel,by decide +kernel⟩
abbrev pG:Stmt:=top 22
theorem Df:bO (["_law_parts","_law_leaves"]:List Str) (["_law_parts","_law_leaves"]:List Str) (aN pG):=⟨rfl,rfl,rfl,by decide +kernel,rfl,by decide +kernel,by decide +kernel⟩
abbrev Dg:Stmt:=top 23
theorem gP:bO (["_law_left","_law_most","_law_names","_law_parts","_law_people","_law_some","_law_sides","_law_part","_law_paper","_law_day"]:List Str) (["_law_left","_law_most"]:List Str) (aN Dg):=⟨rfl,rfl,rfl,by decide +kernel,rfl,by decide +kernel,by decide +kernel⟩
abbrev Dh:Stmt:=top 24
theorem Rz:bO (["_law_parts","_law_paper","_law_day","_law_leave"]:List Str) (["_law_parts","_law_paper","_law_day","_law_leave"]:List Str) (aN Dh):=⟨rfl,rfl,rfl,by decide +kernel,rfl,by decide +kernel,by decide +kernel⟩
abbrev rJ:Stmt:=top 25
theorem kY:bO (["_law_parts","_law_leaves","_law_paper","_law_holder","_law_day","_law_found","_law_turn","_law_leave"]:List Str) (["_law_parts","_law_leaves","_law_paper","_law_holder","_law_day"]:List Str) (aN rJ):=⟨rfl,rfl,rfl,by decide +kernel,rfl,by decide +kernel,by decide +kernel⟩
abbrev RB:Stmt:=top 26
theorem dY:bO (["_law_script","_law_k","_law_left","_law_parts","_law_people","_law_leaves","_law_paper","_law_day","_law_house","_law_every","_law_turn","_law_some","_law_holder","_law_due","_law_found","_law_signer"]:List Str) (["_law_script"]:List Str) (aN RB):=⟨rfl,rfl,rfl,by decide +kernel,rfl,by decide +kernel,by decide +kernel⟩
structure Txt (K:PySem.W.Frag) (mg:Str→Option Value):Prop where
 Ld:mg "abs"=none
 RC:mg "all"=none
 yI:mg "bool"=none
 pH:mg "enumerate"=none
 yJ:mg "int"=none
 bN:mg "isinstance"=none
 jg:mg "len"=none
 yK:mg "list"=none
 RG:mg "max"=none
 yL:mg "min"=none
 fX:mg "range"=none
 gQ:mg "sorted"=none
 GF:mg "str"=none
 m8:mg "tuple"=none
 RJ:mg "zip"=none
@[reducible] def nR:FT:=(fTst (aH j8 (aG 1) (aG 2)))
@[reducible] def nU:FS:=(fSeq (lF 3 (fVar 1)) (fSet 1 (aH bH (aG 2) (aG 1))))
@[reducible] def jm:FE:=(fVar 0)
@[reducible] def jn:FE:=(fVar 1)
@[reducible] def m9:FS:=(fSeq (fSet 2 (Z9 (iB2 (aq (aH bH (aG 0) (aq (fCst (.int 0)))))) (.many 2) gZ jm jn [])) (fSeq (fSet 3 (fLst aNil)) (fSeq (Ux nR nU) (fRetV 3))))
def jz:FN:=fN 2 4 m9
@[reducible] def uW:FS:=(fRet (aH j8 (aG 1) (aq (qe (aG 0) (m5 (aq (fCst (.int 2)))) (m5 (aq (fCst (.int 4))))))))
def dR:FN:=fN 2 2 uW
@[reducible] def nj:FT:=(ie (fTst (aH j8 (aG 3) (aG 7))) (ie (fTst (Ff uH uH (aG 4) (aG 8) (aG 5))) (ie (fTst (aH uH (aq (aH bH (aG 9) (aq (fCst (.int 1))))) (aG 6))) (ie (vp (fTru (aq (fCal dR (aCons (fVar 9) (aCons (fVar 1) aNil)))))) (vp (fTru (aq (fCal dR (aCons (fVar 9) (aCons (fVar 2) aNil))))))))))
@[reducible] def nq:FE:=(fTup (aCons (fVar 0) (aCons (fVar 1) (aCons (fVar 2) aNil))))
@[reducible] def uX:FS:=(fSeq (fSet 3 (fCal jz (aCons (fVar 0) (aCons (aH bH (aG 1) (aq (fCst (.int 0)))) aNil)))) (fRet (fLC (iB2 (aq (aH bH (aG 0) (aq (fCst (.int 2)))))) (.many 7) nj nq [3,2,1])))
def iJ:FN:=fN 3 4 uX
@[reducible] def qR:FS:=(zB 2 (aG 5) (fVar 4))
@[reducible] def qT:FT:=(ie (fTst (aH j8 (aG 2) (aG 3))) (fTst (aH fW (aG 1) (aG 4))))
@[reducible] def qU:FE:=(fVar 1)
@[reducible] def qW:FT:=(fTru (aG 3))
@[reducible] def qX:FS:=(fSeq (Uw 4 (aq (fCst (.int 1)))) (fSeq (fSet 3 (fSC (iB2 (aG 0)) (.many 3) qT qU [3,2])) (gG (iV (fVar 3)) (gNm 5) qR)))
@[reducible] def rK:FS:=(fSeq (fSet 2 (K8 (aG 1) (fCst (.int 0)))) (fSeq (fSet 3 (fLst (aCons (fVar 1) aNil))) (fSeq (fSet 4 (fCst (.int 0))) (fSeq (Ux qW qX) (fRetV 2)))))
def iK:FN:=fN 2 6 rK
@[reducible] def nW:FT:=(ie (fTst (aH mZ (aG 1) (aG 3))) (ie (fTst (aH j8 (aG 2) (aG 4))) (fTst (aH By (aq (aH bH (aG 4) (aG 2))) (aq (aH bH (aG 4) (aG 3)))))))
@[reducible] def nY:FE:=(fTup (aCons (fVar 0) (aCons (fVar 2) aNil)))
@[reducible] def nu:FS:=(fRet (fFun CW (bCons (aq (fLC (iB2 (aG 0)) (.many 3) nW nY [2,1])) bNil)))
def jA:FN:=fN 3 3 nu
@[reducible] def pI:FT:=(fTst (aH uG (aG 1) (aG 2)))
@[reducible] def pJ:FS:=(fSeq (fUnp (fCal jA (aCons (fVar 0) (aCons (fVar 3) (aCons (fVar 1) aNil)))) (gTp 2 (gsCons (gNm 5) (gsCons (gNm 1) gsNil)))) (lF 4 (fVar 5)))
@[reducible] def kZ:FS:=(fSeq (fSet 3 (fCal iK (aCons (fVar 0) (aCons (fVar 2) aNil)))) (fSeq (jr (fTst (aH fW (aG 1) (aG 3))) (fRet (fCst .none)) fNext) (fSeq (fSet 4 (fLst aNil)) (fSeq (Ux pI pJ) (fRetV 4)))))
def lg:FN:=fN 3 6 kZ
@[reducible] def pK:FS:=(fSeq (jr (zy (fTru (aq (fCal dR (aCons (fVar 1) (aCons (fVar 2) aNil))))) (fTru (aq (fCal dR (aCons (fVar 1) (aCons (fVar 3) aNil)))))) (fRet (fCst .none)) fNext) (fRet (fCal lg (aCons (fCal iJ (aCons (fVar 0) (aCons (fVar 1) (aCons (fVar 4) aNil)))) (aCons (fVar 2) (aCons (fVar 3) aNil))))))
def ue:FN:=fN 5 5 pK
@[reducible] def nZ:FE:=(fTup (aCons (fVar 0) (aCons (fVar 2) (aCons (fVar 1) aNil))))
@[reducible] def jB:FS:=(fSeq (jr (fTru (aq (fCal dR (aCons (fVar 1) (aCons (fVar 2) aNil))))) (fRet (fLst aNil)) fNext) (fSeq (fSet 4 (fLC (iB2 (aq (fCal iJ (aCons (fVar 0) (aCons (fVar 1) (aCons (fVar 3) aNil)))))) (.many 3) gZ nZ [])) (fRet (fFun kW (bCons (aq (fCal iK (aCons (fVar 4) (aCons (fVar 2) aNil)))) bNil)))))
def gR:FN:=fN 4 5 jB
@[reducible] def Jw:FS:=(fSeq (fSet 2 (aH fO (aq (aH eN (aq (aH aY (aq (aH aY (aq (aH fO (aG 0) (aq (fCst (.int 2147483629))))) (aq (aH eN (aq (aH eN (aG 1) (aG 1))) (aq (fCst (.int 7919))))))) (aq (fCst (.int 11))))) (aq (fCst (.int 48271))))) (aq (fCst (.int 2147483647))))) (fRet (aH fO (aq (aH eN (aG 2) (aG 2))) (aq (fCst (.int 1999999973))))))
def yM:FN:=fN 2 3 Jw
@[reducible] def lM:FS:=(fSeq (fSet 2 (BP (fTst (aH By (aG 1) (aq (vz 0)))) (QV 0 (aG 1)) (fCst (.int 0)))) (fRet (fLst (aCons (aH bH (aq (fLst (aCons (fCst (.int 0)) (aCons (fFun FP (bCons (aG 2) bNil)) aNil)))) (aq (fFun qK (bCons (aq (aH Uk (aq (fFun FP (bCons (aG 2) bNil))) (aq (aH vo (aq (fCst (.int 10))) (aq (fCst (.int 18))))))) bNil)))) (aCons (aH aY (aG 2) (aq (aH eN (aq (fCst (.int 1000003))) (aG 1)))) (aCons (fCst (.int 0)) aNil))))))
def iW:FN:=fN 2 3 lM
@[reducible] def wu:FS:=(fSeq (zB 0 (aq (fCst (.int 2))) (aH aY (aq (yo 0 (aq (fCst (.int 2))))) (aq (fCst (.int 1))))) (fSeq (jr (fTst (aH BJ (aq (yo 0 (aq (fCst (.int 0))))) (aq (fCst (.int 0))))) (fSeq (fSet 2 (aH fO (aq (yo 0 (aq (fCst (.int 0))))) (aG 1))) (fSeq (zB 0 (aq (fCst (.int 0))) (aH oV (aq (yo 0 (aq (fCst (.int 0))))) (aG 1))) (fRetV 2))) fNext) (fRet (aH fO (aq (aH oV (aq (fCal yM (aCons (fCal yM (aCons (yo 0 (aq (fCst (.int 1)))) (aCons (yo 0 (aq (fCst (.int 2)))) aNil))) (aCons (aH aY (aq (yo 0 (aq (fCst (.int 2))))) (aq (fCst (.int 64)))) aNil)))) (aq (fCst (.int 64))))) (aG 1)))))
def aK:FN:=fN 2 3 wu
@[reducible] def yN (Di:FN):FE:=(fCal Di (aCons (fVar 0) (aCons (fVar 1) aNil)))
@[reducible] def wz (Di:FN):FS:=(fSeq (jr (fTru (aq (Ga "list" "tuple" (aG 1)))) (fSeq (jr (zy (fTst (aH uG (aq (rE "list" (aG 0))) (aq (rE "list" (aG 1))))) (fTst (aH uG (aq (rE "tuple" (aG 0))) (aq (rE "tuple" (aG 1)))))) (fRet (fCst (.bool false))) fNext) (fRet (oX (aH mZ (aq (fFun gJ (bCons (aG 0) bNil))) (aq (fFun gJ (bCons (aG 1) bNil)))) (fFun FQ (bCons (aq (fLC (iZp (bCons (aG 0) (bCons (aG 1) bNil))) (.many 2) gZ (yN Di) [])) bNil))))) fNext) (fSeq (jr (zy (fTst (aH Kh (aG 1) (aq (fCst .none)))) (fTru (aq (rE "str" (aG 1))))) (fRet (oX (aH mZ (aG 0) (aG 1)) (aH mZ (aq (rE "str" (aG 0))) (aq (rE "str" (aG 1)))))) fNext) (fSeq (jr (fTru (aq (rE "bool" (aG 1)))) (fRet (oX (rE "bool" (aG 0)) (aH mZ (aG 0) (aG 1)))) fNext) (fRet (oX (rE "int" (aG 0)) (oX (Kq (rE "bool" (aG 0))) (aH mZ (aG 0) (aG 1))))))))
def gU:Nat→FN
 | 0=>Rb
 | n + 1=>fN 2 2 (wz (gU n))
@[reducible] def cU:FS:=(fSeq (fSet 11 (aH fO (aq (aH aY (aG 5) (aq (aH eN (aG 6) (aG 10))))) (aq (fCst (.int 676))))) (fSeq (fSet 12 (aH aY (aq (aH bH (aG 2) (aq (aH oV (aG 11) (aq (fCst (.int 26))))))) (aq (aH bH (aG 2) (aq (aH fO (aG 11) (aq (fCst (.int 26))))))))) (lF 8 (aH aY (aq (aH aY (aG 3) (aG 12))) (aq (qe (aG 4) vB (m5 (aq (aH fO (aq (aH aY (aq (aH eN (aG 10) (aG 10))) (aG 5))) (aq (fCst (.int 4))))))))))))
@[reducible] def fD:FE:=(aH bH (aG 1) (aq (aH fO (aq (aH aY (aG 2) (aq (aH eN (aG 3) (aG 0))))) (aq (fCst (.int 26))))))
@[reducible] def iM:FE:=(qe (aG 1) (m5 (aG 0)) (m5 (aq (aH aY (aG 0) (aG 2)))))
@[reducible] def cV:FS:=(U7 8 (aq (fLC (vM (aq (aH vm (aq (fCst (.int 9))) (aG 9)))) .one gZ iM [7,9])))
@[reducible] def fG:FE:=(aH bH (aG 1) (aq (aH fO (aq (aH aY (aG 2) (aq (aH eN (aq (fCst (.int 5))) (aG 0))))) (aq (fCst (.int 26))))))
@[reducible] def iQ:FE:=(aH bH (aG 1) (aq (fCal aK (aCons (fVar 2) (aCons (fCst (.int 26)) aNil)))))
@[reducible] def iR:FE:=(aH bH (aG 1) (aq (fCal aK (aCons (fVar 2) (aCons (fCst (.int 26)) aNil)))))
@[reducible] def fP:FS:=(fSeq (fSet 2 (fCst (.str (Str.ofString "abcdefghijklmnopqrstuvwxyz")))) (fSeq (fSet 3 (o9 (aq (fCst (.str (Str.ofString "")))) (aq (fLC (vM (aq (fCal aK (aCons (fVar 0) (aCons (fCst (.int 4)) aNil))))) .one gZ iR [2,0])))) (fSeq (fSet 4 (o9 (aq (fCst (.str (Str.ofString "")))) (aq (fLC (vM (aq (fCal aK (aCons (fVar 0) (aCons (fCst (.int 4)) aNil))))) .one gZ iQ [2,0])))) (fSeq (fPar [5,6] (oCons (fCal aK (aCons (fVar 0) (aCons (fCst (.int 676)) aNil))) (oCons (aH bH (aq (fLst (aCons (fCst (.int 1)) (aCons (fCst (.int 3)) (aCons (fCst (.int 5)) (aCons (fCst (.int 7)) (aCons (fCst (.int 25)) (aCons (fCst (.int 675)) aNil)))))))) (aq (fCal aK (aCons (fVar 0) (aCons (fCst (.int 6)) aNil))))) aNil))) (fSeq (jr (fTst (aH mZ (aq (fCal aK (aCons (fVar 0) (aCons (fCst (.int 4)) aNil)))) (aq (fCst (.int 0))))) (fSeq (fPar [7,8] (oCons (o9 (aq (fCst (.str (Str.ofString "")))) (aq (fLC (vM (aq (fCst (.int 8)))) .one gZ fG [2,5]))) (oCons (fLst aNil) aNil))) (fSeq (gG (Rm (aq (fCst (.int 1))) (aq (fCst (.int 9)))) (gNm 9) cV) (fRet (qe (aG 8) vB (m5 (aG 1)))))) fNext) (fSeq (jr (ie (fTst (aH By (aG 1) (aq (fCst (.int 27))))) (fTst (aH mZ (aq (fCal aK (aCons (fVar 0) (aCons (fCst (.int 3)) aNil)))) (aq (fCst (.int 0)))))) (fRet (fLC (vM (aG 1)) .one gZ fD [2,5,6])) fNext) (fSeq (fSet 8 (fLst aNil)) (fSeq (gG (vM (aG 1)) (gNm 10) cU) (fRetV 8)))))))))
def iY:FN:=fN 2 13 fP
@[reducible] def pL:FS:=(fSeq (fSet 1 (aH bH (aq (fLst (aCons (fCal aK (aCons (fVar 0) (aCons (fCst (.int 9)) aNil))) (aCons (fCal aK (aCons (fVar 0) (aCons (fCst (.int 9)) aNil))) (aCons (aH vm (aq (fCst (.int 99990))) (aq (fCal aK (aCons (fVar 0) (aCons (fCst (.int 9)) aNil))))) aNil))))) (aq (fCal aK (aCons (fVar 0) (aCons (fCst (.int 3)) aNil)))))) (fRet (fTup (aCons (fVar 1) (aCons (fFun lG (bCons (aq (fCst (.int 99999))) (bCons (aq (aH aY (aG 1) (aq (aH bH (aq (fLst (aCons (fCst (.int 0)) (aCons (fCal aK (aCons (fVar 0) (aCons (fCst (.int 12)) aNil))) (aCons (fCst (.int 99999)) aNil))))) (aq (fCal aK (aCons (fVar 0) (aCons (fCst (.int 3)) aNil)))))))) bNil))) aNil)))))
def gk:FN:=fN 1 2 pL
@[reducible] def pM:FS:=(fRet (aH bH (aq (fLst (aCons (fCal aK (aCons (fVar 0) (aCons (fCst (.int 4)) aNil))) (aCons (aH aY (aq (fCst (.int 100))) (aq (fCal aK (aCons (fVar 0) (aCons (fCst (.int 4)) aNil))))) (aCons (aH vm (aq (aH vo (aq (fCst (.int 10))) (aq (fCst (.int 9))))) (aq (fCal aK (aCons (fVar 0) (aCons (fCst (.int 3)) aNil))))) aNil))))) (aq (fCal aK (aCons (fVar 0) (aCons (fCst (.int 3)) aNil))))))
def dG:FN:=fN 1 1 pM
@[reducible] def dD:FS:=(zB 2 (aG 4) (aH bH (aq (aH aY (aq (fLst (aCons (fCst (.str (Str.ofString ""))) aNil))) (aq (qe (aG 1) vB (m5 (aG 3)))))) (aq (BP (fTst (aH BJ (aq (fCal aK (aCons (fVar 0) (aCons (fCst (.int 4)) aNil)))) (aq (fCst (.int 0))))) (fCal aK (aCons (fVar 0) (aCons (aH aY (aG 3) (aq (fCst (.int 1)))) aNil))) (fCst (.int 0))))))
@[reducible] def lN:FS:=(fSeq (fSet 2 IK) (fSeq (gG (iEn (fVar 1)) (gTp 2 (gsCons (gNm 3) (gsCons (gNm 4) gsNil))) dD) (fRetV 2)))
def iZ:FN:=fN 2 5 lN
@[reducible] def mH:FT:=(fTst (aH j8 (aG 1) (aG 0)))
@[reducible] def mJ:FS:=(fSeq (lF 2 (fVar 1)) (fSet 1 (aH bH (aG 0) (aG 1))))
@[reducible] def lO:FS:=(fSeq (fSet 2 (fLst aNil)) (fSeq (Ux mH mJ) (fRetV 2)))
def dU:FN:=fN 2 3 lO
@[reducible] def nA:FS:=(fSeq (lF 2 (fVar 3)) (fSet 3 (aH aY (aq (aH aY (aG 3) (aq (fCst (.int 1))))) (aq (aH eN (aq (fCal aK (aCons (fVar 0) (aCons (fCst (.int 2)) aNil)))) (aq (fCal aK (aCons (fVar 0) (aCons (fCst (.int 3)) aNil)))))))))
@[reducible] def uY:FS:=(fSeq (fPar [2,3] (oCons (fLst aNil) (oCons (fCal aK (aCons (fVar 0) (aCons (fCst (.int 3)) aNil))) aNil))) (fSeq (gG (vM (aG 1)) (gNm 4) nA) (fRetV 2)))
def qm:FN:=fN 2 5 uY
@[reducible] def cF:FS:=(fSeq (fSet 9 (fCal aK (aCons (fVar 0) (aCons (fFun gJ (bCons (aG 2) bNil)) aNil)))) (fSeq (fSet 10 (aH fO (aq (aH aY (aq (aH aY (aG 9) (aq (fCst (.int 1))))) (aq (aH eN (aq (fCal aK (aCons (fVar 0) (aCons (aH vm (aq (fFun gJ (bCons (aG 2) bNil))) (aq (fCst (.int 1)))) aNil)))) (aq (fCal aK (aCons (fVar 0) (aCons (fCst (.int 2)) aNil)))))))) (aq (fFun gJ (bCons (aG 2) bNil))))) (fSeq (fPar [11,12,13] (oCons (aH bH (aq (fFun kW (bCons (aG 1) bNil))) (aq (fCal aK (aCons (fVar 0) (aCons (fFun gJ (bCons (aG 1) bNil)) aNil))))) (oCons (fCal gk (aCons (fVar 0) aNil)) (oCons (fCal dG (aCons (fVar 0) aNil)) aNil)))) (fSeq (jr (ie (fTst (aH BJ (aq (fCal aK (aCons (fVar 0) (aCons (fCst (.int 3)) aNil)))) (aq (fCst (.int 0))))) (fTst (aH uG (aG 7) (aq (fLst aNil))))) (fSeq (fSet 11 (aH bH (aG 7) (aq (fCal aK (aCons (fVar 0) (aCons (fFun gJ (bCons (aG 7) bNil)) aNil)))))) (fSeq (fSet 12 (fTup (aCons (fFun uP (bCons (aq (fCst (.int 0))) (bCons (aq (aH vm (aG 5) (aq (fCal aK (aCons (fVar 0) (aCons (fCst (.int 2)) aNil)))))) bNil))) (aCons (fFun lG (bCons (aq (fCst (.int 99999))) (bCons (aq (aH aY (aG 5) (aq (fCal aK (aCons (fVar 0) (aCons (fCst (.int 2)) aNil)))))) bNil))) aNil)))) (fSet 13 (fFun lG (bCons (aq (aH vo (aq (fCst (.int 10))) (aq (fCst (.int 9))))) (bCons (aq (aH aY (aq (aH bH (aG 4) (aq (fCst (.int 1))))) (aq (fCal aK (aCons (fVar 0) (aCons (fCst (.int 2)) aNil)))))) bNil)))))) fNext) (lF 6 (aH aY (aq (aH aY (aq (fTup (aCons (fVar 8) (aCons (aH bH (aG 2) (aG 9)) (aCons (aH bH (aG 2) (aG 10)) (aCons (fVar 11) aNil)))))) (aG 12))) (aq (fTup (aCons (fVar 13) aNil)))))))))
@[reducible] def jW:FS:=(fSeq (fPar [6,7] (oCons (fLst aNil) (oCons (fCal dU (aCons (fVar 1) (aCons (aH bH (aG 4) (aq (fCst (.int 0)))) aNil))) aNil))) (fSeq (gG (iV (fCal qm (aCons (fVar 0) (aCons (aH eN (aG 3) (aq (fFun qK (bCons (aq (aH BJ (aq (fFun gJ (bCons (aG 2) bNil))) (aq (fCst (.int 1))))) bNil)))) aNil)))) (gNm 8) cF) (fRetV 6)))
def gW:FN:=fN 6 14 jW
@[reducible] def pN:FS:=(fRet (fTup (aCons (fFun tK (bCons (aq (CV (aG 0))) bNil)) (aCons (fTup aNil) (aCons (fFun tK (bCons (aG 1) bNil)) (aCons (fTup aNil) aNil))))))
def lq:FN:=fN 2 2 pN
@[reducible] def Dj:FS:=(fSeq (fSet 2 (fCal iY (aCons (fVar 0) (aCons (fCst (.int 24)) aNil)))) (fSeq (fSet 3 (fCal iZ (aCons (fVar 0) (aCons (qe (aG 2) vB (m5 (aq (aH aY (aq (fCst (.int 1))) (aq (fCal aK (aCons (fVar 0) (aCons (fCst (.int 8)) aNil)))))))) aNil)))) (fSeq (fSet 4 (qe (aG 2) (m5 (aq (fCst (.int 2)))) (m5 (aq (aH aY (aq (aH aY (aq (fCst (.int 2))) (aq (fCst (.int 2))))) (aq (fCal aK (aCons (fVar 0) (aCons (aH bH (aq (fLst (aCons (fCst (.int 4)) (aCons (fCst (.int 9)) (aCons (fCst (.int 16)) aNil))))) (aq (fCal aK (aCons (fVar 0) (aCons (fCst (.int 3)) aNil))))) aNil))))))))) (fSeq (fSet 5 (aH aY (aG 4) (aq (qe (aG 2) (m5 (aq (fCst (.int 18)))) (m5 (aq (fCst (.int 20)))))))) (fSeq (fSet 6 (fTup (aCons (aH bH (aG 5) (aq (fCal aK (aCons (fVar 0) (aCons (fFun gJ (bCons (aG 5) bNil)) aNil))))) (aCons (aH bH (aG 5) (aq (fCal aK (aCons (fVar 0) (aCons (fFun gJ (bCons (aG 5) bNil)) aNil))))) aNil)))) (fSeq (jr (fTst (aH BJ (aq (fCal aK (aCons (fVar 0) (aCons (fCst (.int 3)) aNil)))) (aq (fCst (.int 0))))) (fSet 6 (fTup (aCons (aH bH (aG 2) (aq (fCst (.int 20)))) (aCons (aH bH (aG 2) (aq (aH aY (aq (fCst (.int 20))) (aq (fCal aK (aCons (fVar 0) (aCons (fCst (.int 2)) aNil))))))) aNil)))) fNext) (fSeq (fSet 7 (aH bH (aq (aH aY (aq (fFun kW (bCons (aG 3) bNil))) (aq (qe (aG 2) (m5 (aq (fCst (.int 22)))) (m5 (aq (fCst (.int 23)))))))) (aq (fCal aK (aCons (fVar 0) (aCons (aH aY (aq (fFun gJ (bCons (aG 3) bNil))) (aq (fFun qK (bCons (aq (aH mZ (aq (fCal aK (aCons (fVar 0) (aCons (fCst (.int 9)) aNil)))) (aq (fCst (.int 0))))) bNil)))) aNil)))))) (fSeq (fPar [8,9] (oCons (aH aY (aq (fTup (aCons (fVar 7) (aCons (fCal dG (aCons (fVar 0) aNil)) aNil)))) (aG 6)) (oCons (aH bH (aq (fCal gk (aCons (fVar 0) aNil))) (aq (fCal aK (aCons (fVar 0) (aCons (fCst (.int 2)) aNil))))) aNil))) (fRet (fTup (aCons (fVar 3) (aCons (fVar 4) (aCons (fCal gW (aCons (fVar 0) (aCons (fVar 3) (aCons (fVar 4) (aCons (fCal aK (aCons (fVar 0) (aCons (aH aY (aG 1) (aq (fCst (.int 1)))) aNil))) (aCons (fVar 8) (aCons (fVar 9) aNil))))))) (aCons (fVar 8) (aCons (fVar 9) aNil)))))))))))))))
def wA:FN:=fN 2 10 Dj
@[reducible] def qt:FS:=(fSeq (jr (zy (fTst (aH j8 (aq (aH bH (aG 3) (aq (fCst (.int 1))))) (aq (qe (aG 1) (m5 (aq (fCst (.int 2)))) vB)))) (zy (fTst (aH j8 (aq (aH bH (aG 3) (aq (fCst (.int 2))))) (aq (qe (aG 1) (m5 (aq (fCst (.int 2)))) vB)))) (fTst (aH fW (aq (aH bH (aG 3) (aq (fCst (.int 3))))) (aq (fCal dU (aCons (fVar 0) (aCons (aH bH (aG 1) (aq (fCst (.int 0)))) aNil)))))))) (fRet (fCst (.bool false))) fNext) (fRet (oX (Ff uH uH (aq (aH bH (aG 3) (aq (fCst (.int 4))))) (aG 2) (aq (aH bH (aG 3) (aq (fCst (.int 5)))))) (aH uH (aq (aH bH (aG 1) (aq (fCst (.int 1))))) (aq (aH bH (aG 3) (aq (fCst (.int 6)))))))))
def wB:FN:=fN 4 4 qt
@[reducible] def fQ:FS:=(jr (ie (fTst (aH j8 (aq (aH bH (aG 7) (aq (fCst (.int 1))))) (aG 5))) (ie (fTst (aH fW (aq (aH bH (aG 7) (aq (fCst (.int 2))))) (aG 5))) (fTru (aq (fCal wB (aCons (fVar 0) (aCons (fVar 2) (aCons (fVar 4) (aCons (fVar 7) aNil))))))))) (lF 5 (aH bH (aG 7) (aq (fCst (.int 2))))) fNext)
@[reducible] def qY:FS:=(gG (iV (fVar 1)) (gNm 7) fQ)
@[reducible] def rM:FS:=(fSeq (fSet 5 (aH CT (aq (fLst (aCons (fVar 3) aNil))) (aq (fFun qK (bCons (aq (aH fW (aG 3) (aq (qe (aG 2) (m5 (aq (fCst (.int 2)))) vB)))) bNil))))) (fSeq (gG (iV (fVar 1)) (gNm 6) qY) (fRet (fFun vZ (bCons (aG 5) bNil)))))
def jX:FN:=fN 5 8 rM
@[reducible] def yO:FS:=(jr (fTst (aH uG (aq (aH xP (aq (fCal ue (aCons (fVar 8) (aCons (fVar 11) (aCons (fVar 12) (aCons (fVar 15) (aCons (fVar 7) aNil))))))) (aq (fCst .none)))) (aq (aH j8 (aG 15) (aG 13))))) (fRet (fCst (.bool false))) fNext)
@[reducible] def yP:FS:=(fSeq (fSet 13 (fCal jX (aCons (fVar 3) (aCons (fVar 5) (aCons (fVar 11) (aCons (fVar 12) (aCons (fVar 7) aNil))))))) (fSeq (fSet 14 (fCal gR (aCons (fVar 8) (aCons (fVar 11) (aCons (fVar 12) (aCons (fVar 7) aNil)))))) (fSeq (jr (vp (fTru (aq (fCal (gU 3) (aCons (fVar 14) (aCons (fVar 13) aNil)))))) (fRet (fCst (.bool false))) fNext) (fSeq (lF 14 (fCst (.str (Str.ofString "more")))) (jr (vp (fTru (aq (fCal (gU 3) (aCons (fCal gR (aCons (fVar 8) (aCons (fVar 11) (aCons (fVar 12) (aCons (fVar 7) aNil))))) (aCons (fVar 13) aNil)))))) (fRet (fCst (.bool false))) fNext)))))
@[reducible] def mK:FS:=(fSeq (fSet 11 (aH aY (aq (fTup (aCons (aH bH (aq (fFun kW (bCons (aG 3) bNil))) (aq (fCal aK (aCons (fVar 2) (aCons (fFun gJ (bCons (aG 3) bNil)) aNil))))) (aCons (fCal dG (aCons (fVar 2) aNil)) aNil)))) (aq (qe (aG 6) (m5 (aq (fCst (.int 2)))) vB)))) (fSeq (fSet 11 (BP (fTst (aH mZ (aG 10) (aq (fCst (.int 0))))) (fVar 6) (fVar 11))) (fSeq (gG (iV (aH aY (aq (qe (aG 9) vB (m5 (aq (fCst (.int 9)))))) (aq (qe (aG 9) (m5 (aq (fNeg (aq (fCst (.int 1)))))) vB)))) (gNm 12) yP) (fSeq (fSet 12 (aH bH (aG 9) (aq (fCal aK (aCons (fVar 2) (aCons (fFun gJ (bCons (aG 9) bNil)) aNil)))))) (fSeq (fSet 13 (fCal jX (aCons (fVar 3) (aCons (fVar 5) (aCons (fVar 11) (aCons (fVar 12) (aCons (fVar 7) aNil))))))) (gG (iV (fVar 9)) (gNm 15) yO))))))
@[reducible] def yQ:FS:=(fSeq (QH 2 (fCal iW (aCons (fVar 0) (aCons (fVar 1) aNil)))) (fSeq (fUnp (fCal wA (aCons (fVar 2) (aCons (fCst (.int 16)) aNil))) (gTp 5 (gsCons (gNm 3) (gsCons (gNm 4) (gsCons (gNm 5) (gsCons (gNm 6) (gsCons (gNm 7) gsNil))))))) (fSeq (fPar [8,9] (oCons (fCal lq (aCons (fVar 3) (aCons (fVar 5) aNil))) (oCons (aH aY (aG 4) (aq (fLst (aCons (aH bH (aG 6) (aq (fCst (.int 2)))) aNil)))) aNil))) (gG (vM (aq (fCst (.int 3)))) (gNm 10) mK))))
@[reducible] def RK:FS:=(fSeq (gG (vM (aq (aH aY (aq (fCst (.int 1))) (aq (fFun lG (bCons (aq (fCst (.int 6))) (bCons (aq (vz 0)) bNil))))))) (gNm 1) yQ) (fRet (fCst (.bool true))))
def Am:FN:=fN 1 16 RK
theorem zG {P:Program} {w:World} {K:PySem.W.Frag} {mg:Str→Option Value} {base:Heap} {f:Addr} {fd:FuncData} (F:pW K "parts_over" "parts_over" jw f fd) (T:Txt K mg):cZ P w K mg base oh 1 f fd (["house","part"]:List Str) (spT K jz):=
 eV (body:=m9) F iU fun cdv A outer s H E hr=>(aJ (Q5 (i:=2) (T:=(.many 2)) (NT:=(["name","within"]:List Str)) (NF:=([]:List Str)) (js:=[]) (wX.ok (N0:=(["house","part","outer","over"]:List Str)) (Hi:=aN jw) (by decide +kernel) rfl rfl) (⟨_,_,_,rfl,(.cons ⟨_,rfl⟩ (.cons ⟨_,rfl⟩ .nil)),rfl⟩) rfl hr.aO (Gf (aj (bT (bh hr.aO) bU (ao (pv 0)) (aj (au aC)) (fun _ _=>rfl)))) (fun b=>⟨kJ,(az (pv 0)),(az (pv 1))⟩) (by rfl) iU.nd rfl rfl) (aJ (bC (i:=3) iU.nd rfl (Or.inl rfl) (dm aD)) (aJ (tG PassesOwn.never (cA (lD hr.aO) qG (ao (pv 1)) (ao (pv 2)) (by with_unfolding_all rfl)) (aJ (oZ (pv 3) (az (pv 1))) (aW (bC (i:=1) iU.nd rfl (Or.inl rfl) (bT (bh hr.aO) bU (ao (pv 2)) (ao (pv 1)) (fun _ _=>rfl)))))) (aW (jt (pv 3))))))
theorem Jx {P:Program} {w:World} {K:PySem.W.Frag} {mg:Str→Option Value} {base:Heap} {f:Addr} {fd:FuncData} (F:pW K "is_side" "is_side" uU f fd) (T:Txt K mg):cZ P w K mg base oh 1 f fd (["paper","person"]:List Str) (spT K dR):=
 eV (body:=uW) F Ju fun cdv A outer s H E hr=>(aW (cC (iD (lD hr.aO) qG (ao (pv 1)) (aj (jR (ao (pv 0)) (gf (aj (au aC))) (gf (aj (au aC))))) (by with_unfolding_all rfl))))
theorem Jy {P:Program} {w:World} {K:PySem.W.Frag} {mg:Str→Option Value} {base:Heap} {f:Addr} {fd:FuncData} (F:pW K "ways_on" "ways_on" qj f fd) (T:Txt K mg) (nC:j7 P w K mg base "parts_over" 1 (["house","part"]:List Str) (spT K jz)) (dF:j7 P w K mg base "is_side" 1 (["paper","person"]:List Str) (spT K dR)):cZ P w K mg base oh 2 f fd (["house","paper","day"]:List Str) (spT K iJ):=
 eV (body:=uX) F yH fun cdv A outer s H E hr=>(aJ (bC (i:=3) yH.nd rfl (Or.inr rfl) (aU nC (hr.mono (by decide)) rfl (aa (az (pv 0)) (aa (bT (bh hr.aO) bU (ao (pv 1)) (aj (au aC)) (fun _ _=>rfl)) aD)))) (aW (cC (vq (T:=(.many 7)) (NT:=(["number","giver","taker","part","first","last","most"]:List Str)) (NF:=(["over","day","paper"]:List Str)) (js:=[3,2,1]) (wX.ok (N0:=(["house","paper","day","over"]:List Str)) (Hi:=aN qj) (by decide +kernel) rfl rfl) (⟨_,_,_,rfl,(.cons ⟨_,rfl⟩ (.cons ⟨_,rfl⟩ (.cons ⟨_,rfl⟩ (.cons ⟨_,rfl⟩ (.cons ⟨_,rfl⟩ (.cons ⟨_,rfl⟩ (.cons ⟨_,rfl⟩ .nil))))))),rfl⟩) rfl (Gf (aj (bT (bh hr.aO) bU (ao (pv 0)) (aj (au aC)) (fun _ _=>rfl)))) (fun b=>⟨(Cg (PW.pt (jL (cA (lD hr.aO) qG (ao (pv 3)) (ao (pv 7)) (by with_unfolding_all rfl)) (jL (Xz uI z8 uI z8 (ao (pv 4)) (ao (pv 8)) (ao (pv 5))) (jL (cA uI z8 (aj (bT (bh hr.aO) bU (ao (pv 9)) (aj (au aC)) (fun _ _=>rfl))) (ao (pv 6)) (cH _)) (jL (BK (jh (aj (aU dF (hr.mono (by decide)) rfl (aa (az (pv 9)) (aa (az (pv 1)) aD)))))) (qb (BK (jh (aj (aU dF (hr.mono (by decide)) rfl (aa (az (pv 9)) (aa (az (pv 2)) aD))))))))))))),(f9 (aa (az (pv 0)) (aa (az (pv 1)) (aa (az (pv 2)) aD))))⟩)))))
theorem GJ {P:Program} {w:World} {K:PySem.W.Frag} {mg:Str→Option Value} {base:Heap} {f:Addr} {fd:FuncData} (F:pW K "steps_to" "steps_to" m6 f fd) (T:Txt K mg):cZ P w K mg base oh 1 f fd (["ways","signer"]:List Str) (spT K iK):=
 eV (body:=rK) F fj fun cdv A outer s H E hr=>(aJ (bC (i:=2) fj.nd rfl (Or.inr rfl) (Rn (ao (pv 1)) (au aC))) (aJ (bC (i:=3) fj.nd rfl (Or.inr rfl) (dm (aa (az (pv 1)) aD))) (aJ (bC (i:=4) fj.nd rfl (Or.inl rfl) (au aC)) (aJ (tG PassesOwn.never (jh (ao (pv 3))) (aJ (XM (i:=4) fj.nd rfl (Or.inl rfl) (aj (au aC))) (aJ (bC (i:=3) fj.nd rfl (Or.inr rfl) (aad (T:=(.many 3)) (NT:=(["number","giver","taker"]:List Str)) (NF:=(["newest","steps"]:List Str)) (js:=[3,2]) (wX.ok (N0:=(["ways","signer","steps","newest","many","person"]:List Str)) (Hi:=aN m6) (by decide +kernel) rfl rfl) (⟨_,_,_,rfl,(.cons ⟨_,rfl⟩ (.cons ⟨_,rfl⟩ (.cons ⟨_,rfl⟩ .nil))),rfl⟩) rfl rfl T.gQ (Gf (ao (pv 0))) (fun b=>⟨(Cg (PW.pt (jL (cA (lD hr.aO) qG (ao (pv 2)) (ao (pv 3)) (by with_unfolding_all rfl)) (qb (cA (mC hr.aO) oW (ao (pv 1)) (ao (pv 4)) (by with_unfolding_all rfl)))))),(az (pv 1))⟩))) (aW (jk PassesOwn.never rfl (Nf (az (pv 3))) (cz (i:=5) fj.nd rfl (Or.inl rfl)) cN (aW (Ca hr.aO (pv 2) (ao (pv 5)) (az (pv 4))))))))) (aW (jt (pv 2)))))))
theorem zH {P:Program} {w:World} {K:PySem.W.Frag} {mg:Str→Option Value} {base:Heap} {f:Addr} {fd:FuncData} (F:pW K "nearer_way" "nearer_way" jy f fd) (T:Txt K mg):cZ P w K mg base oh 1 f fd (["ways","steps","person"]:List Str) (spT K jA):=
 eV (body:=nu) F zF fun cdv A outer s H E hr=>(aW (cC (bI (zE rfl hr.aO) Vf rfl T.yL (by decide +kernel) (aQ (aj (vq (T:=(.many 3)) (NT:=(["number","giver","taker"]:List Str)) (NF:=(["person","steps"]:List Str)) (js:=[2,1]) (wX.ok (N0:=(["ways","steps","person"]:List Str)) (Hi:=aN jy) (by decide +kernel) rfl rfl) (⟨_,_,_,rfl,(.cons ⟨_,rfl⟩ (.cons ⟨_,rfl⟩ (.cons ⟨_,rfl⟩ .nil))),rfl⟩) rfl (Gf (ao (pv 0))) (fun b=>⟨(Cg (PW.pt (jL (cA (lC hr.units) qF (ao (pv 1)) (ao (pv 3)) (cH _)) (jL (cA (lD hr.aO) qG (ao (pv 2)) (ao (pv 4)) (by with_unfolding_all rfl)) (qb (cA (rm hr.Hz) Qo (aj (bT (bh hr.aO) bU (ao (pv 4)) (ao (pv 2)) (fun _ _=>rfl))) (aj (bT (bh hr.aO) bU (ao (pv 4)) (ao (pv 3)) (fun _ _=>rfl))) (cH _))))))),(f9 (aa (az (pv 0)) (aa (az (pv 2)) aD)))⟩))) bw))))
theorem Dk {P:Program} {w:World} {K:PySem.W.Frag} {mg:Str→Option Value} {base:Heap} {f:Addr} {fd:FuncData} (F:pW K "first_row" "first_row" pB f fd) (T:Txt K mg) (iT:j7 P w K mg base "steps_to" 1 (["ways","signer"]:List Str) (spT K iK)) (nD:j7 P w K mg base "nearer_way" 1 (["ways","steps","person"]:List Str) (spT K jA)):cZ P w K mg base oh 2 f fd (["ways","holder","signer"]:List Str) (spT K lg):=
 eV (body:=kZ) F gM fun cdv A outer s H E hr=>(aJ (bC (i:=3) gM.nd rfl (Or.inl rfl) (aU iT (hr.mono (by decide)) rfl (aa (az (pv 0)) (aa (az (pv 2)) aD)))) (aJ (jc (cA (mC hr.aO) oW (ao (pv 1)) (ao (pv 3)) (by with_unfolding_all rfl)) (aW (cC (au Aq))) eY) (aJ (bC (i:=4) gM.nd rfl (Or.inl rfl) (dm aD)) (aJ (tG PassesOwn.never (cA (xO hr.units) Ez (ao (pv 1)) (ao (pv 2)) (cH _)) (aJ (QC (aU nD (hr.mono (by decide)) rfl (aa (az (pv 0)) (aa (az (pv 3)) (aa (az (pv 1)) aD)))) (wG rfl (dj (cz (i:=5) gM.nd rfl (Or.inl rfl)) (dj (cz (i:=1) gM.nd rfl (Or.inl rfl)) rR))) (IW (gC cN (gC cN BW)))) (aW (oZ (pv 4) (az (pv 5)))))) (aW (jt (pv 4)))))))
theorem Ny {P:Program} {w:World} {K:PySem.W.Frag} {mg:Str→Option Value} {base:Heap} {f:Addr} {fd:FuncData} (F:pW K "row_of" "row_of" yG f fd) (T:Txt K mg) (dF:j7 P w K mg base "is_side" 1 (["paper","person"]:List Str) (spT K dR)) (jF:j7 P w K mg base "ways_on" 2 (["house","paper","day"]:List Str) (spT K iJ)) (pO:j7 P w K mg base "first_row" 2 (["ways","holder","signer"]:List Str) (spT K lg)):cZ P w K mg base oh 3 f fd (["house","paper","holder","signer","day"]:List Str) (spT K ue):=
 eV (body:=pK) F Nx fun cdv A outer s H E hr=>(aJ (jc (PW.pt (Fe (jh (aj (aU dF (hr.mono (by decide)) rfl (aa (az (pv 1)) (aa (az (pv 2)) aD))))) (BL (jh (aj (aU dF (hr.mono (by decide)) rfl (aa (az (pv 1)) (aa (az (pv 3)) aD)))))))) (aW (cC (au Aq))) eY) (aW (cC (aU pO (hr.mono (by decide)) rfl (aa (aU jF (hr.mono (by decide)) rfl (aa (az (pv 0)) (aa (az (pv 1)) (aa (az (pv 4)) aD)))) (aa (az (pv 2)) (aa (az (pv 3)) aD)))))))
theorem zJ {P:Program} {w:World} {K:PySem.W.Frag} {mg:Str→Option Value} {base:Heap} {f:Addr} {fd:FuncData} (F:pW K "signers_of" "signers_of" jx f fd) (T:Txt K mg) (dF:j7 P w K mg base "is_side" 1 (["paper","person"]:List Str) (spT K dR)) (jF:j7 P w K mg base "ways_on" 2 (["house","paper","day"]:List Str) (spT K iJ)) (iT:j7 P w K mg base "steps_to" 1 (["ways","signer"]:List Str) (spT K iK)):cZ P w K mg base oh 3 f fd (["house","paper","holder","day"]:List Str) (spT K gR):=
 eV (body:=jB) F qQ fun cdv A outer s H E hr=>(aJ (jc (jh (aj (aU dF (hr.mono (by decide)) rfl (aa (az (pv 1)) (aa (az (pv 2)) aD))))) (aW (cC (dm aD))) eY) (aJ (QT (i:=4) (T:=(.many 3)) (NT:=(["number","giver","taker"]:List Str)) (NF:=([]:List Str)) (js:=[]) (wX.ok (N0:=(["house","paper","holder","day","turned"]:List Str)) (Hi:=aN jx) (by decide +kernel) rfl rfl) (⟨_,_,_,rfl,(.cons ⟨_,rfl⟩ (.cons ⟨_,rfl⟩ (.cons ⟨_,rfl⟩ .nil))),rfl⟩) rfl (Gf (aj (aU jF (hr.mono (by decide)) rfl (aa (az (pv 0)) (aa (az (pv 1)) (aa (az (pv 3)) aD)))))) (fun b=>⟨kJ,(f9 (aa (az (pv 0)) (aa (az (pv 2)) (aa (az (pv 1)) aD))))⟩) (by rfl) qQ.nd rfl rfl) (aW (cC (bI (gK rfl) tZ rfl T.gQ (by decide +kernel) (aQ (aj (aU iT (hr.mono (by decide)) rfl (aa (az (pv 4)) (aa (az (pv 2)) aD)))) bw))))))
theorem Vj {P:Program} {w:World} {K:PySem.W.Frag} {mg:Str→Option Value} {base:Heap} {f:Addr} {fd:FuncData} (F:pW K "_law_mix" "_law_mix" Jv f fd) (T:Txt K mg):cZ P w K mg base oh 1 f fd (["_law_cell","_law_k"]:List Str) (spT K yM):=
 eV (body:=Jw) F Lb fun cdv A outer s H E hr=>(aJ (bC (i:=2) Lb.nd rfl (Or.inl rfl) (aM jG jJ (aj (aM iu iG (aj (aM bf bM (aj (aM bf bM (aj (aM jG jJ (ao (pv 0)) (aj (au aC)))) (aj (aM iu iG (aj (aM iu iG (ao (pv 1)) (ao (pv 1)))) (aj (au aC)))))) (aj (au aC)))) (aj (au aC)))) (aj (au aC)))) (aW (cC (aM jG jJ (aj (aM iu iG (ao (pv 2)) (ao (pv 2)))) (aj (au aC))))))
theorem yR {P:Program} {w:World} {K:PySem.W.Frag} {mg:Str→Option Value} {base:Heap} {f:Addr} {fd:FuncData} (F:pW K "_law_drawn_from" "_law_drawn_from" lH f fd) (T:Txt K mg):cZ P w K mg base oh 1 f fd (["_law_script","_law_k"]:List Str) (spT K iW):=
 eV (body:=lM) F pC fun cdv A outer s H E hr=>(aJ (bC (i:=2) pC.nd rfl (Or.inl rfl) (Qv (cA (rm hr.Hz) Qo (ao (pv 1)) (aj (KH (pv 0) rfl T.jg (by decide +kernel))) (cH _)) (XS (pv 0) (ao (pv 1)) (fun _ _=>rfl)) (au aC))) (aW (cC (dm (aa (bT (bh hr.aO) bU (aj (dm (aa (au aC) (aa (bI DW QX rfl T.Ld (by decide +kernel) (aQ (ao (pv 2)) bw)) aD)))) (aj (mD pR Cm rfl T.yJ (by decide +kernel) (aQ (aj (iD Zh ZZ (aj (bI DW QX rfl T.Ld (by decide +kernel) (aQ (ao (pv 2)) bw))) (aj (aM Hs Iw (aj (au aC)) (aj (au aC)))) (cH _))) bw))) (fun _ _=>rfl)) (aa (aM bf bM (ao (pv 2)) (aj (aM iu iG (aj (au aC)) (ao (pv 1))))) (aa (au aC) aD)))))))
theorem RL {P:Program} {w:World} {K:PySem.W.Frag} {mg:Str→Option Value} {base:Heap} {f:Addr} {fd:FuncData} (F:pW K "_law_pick" "_law_pick" Dd f fd) (T:Txt K mg) (Dl:j7 P w K mg base "_law_mix" 1 (["_law_cell","_law_k"]:List Str) (spT K yM)):cZ P w K mg base oh 2 f fd (["_law_left","_law_many"]:List Str) (spT K aK):=
 eV (body:=wu) F GD fun cdv A outer s H E hr=>(aJ (Ca hr.aO (pv 0) (aj (au aC)) (aM bf bM (aj (rF (pv 0) (aj (au aC)) (fun _ _=>rfl))) (aj (au aC)))) (aJ (jc (cA DR EY (aj (rF (pv 0) (aj (au aC)) (fun _ _=>rfl))) (aj (au aC)) (cH _)) (aJ (bC (i:=2) GD.nd rfl (Or.inl rfl) (aM jG jJ (aj (rF (pv 0) (aj (au aC)) (fun _ _=>rfl))) (ao (pv 1)))) (aJ (Ca hr.aO (pv 0) (aj (au aC)) (aM Aw Bw (aj (rF (pv 0) (aj (au aC)) (fun _ _=>rfl))) (ao (pv 1)))) (aW (jt (pv 2))))) eY) (aW (cC (aM jG jJ (aj (aM Aw Bw (aj (aU Dl (hr.mono (by decide)) rfl (aa (aU Dl (hr.mono (by decide)) rfl (aa (rF (pv 0) (aj (au aC)) (fun _ _=>rfl)) (aa (rF (pv 0) (aj (au aC)) (fun _ _=>rfl)) aD))) (aa (aM bf bM (aj (rF (pv 0) (aj (au aC)) (fun _ _=>rfl))) (aj (au aC))) aD)))) (aj (au aC)))) (ao (pv 1)))))))
theorem RM {P:Program} {w:World} {K:PySem.W.Frag} {mg:Str→Option Value} {base:Heap} {f:Addr} {fd:FuncData} (n:Nat) (F:pW K "_law_same" "_law_same" uc f fd) (T:Txt K mg) (qu:j7 P w K mg base "_law_same" n (["_law_found","_law_due"]:List Str) (spT K (gU n))):cZ P w K mg base oh (n + 1) f fd (["_law_found","_law_due"]:List Str) (spT K (gU (n + 1))):=
 eV (body:=wz (gU n)) F Ry fun cdv A outer s H E hr=>(aJ (jc (jh (aj (UJ (by decide) (by decide) (ao (pv 1)) (fB (v:=.ty "list") rfl T.yK (by decide +kernel) rfl) (fB (v:=.ty "tuple") rfl T.m8 (by decide +kernel) rfl) rfl T.bN (by decide +kernel)))) (aJ (jc (PW.pt (Fe (cA (xO hr.units) Ez (aj (jP (by decide) (ao (pv 0)) (fB (v:=.ty "list") rfl T.yK (by decide +kernel) rfl) rfl T.bN (by decide +kernel))) (aj (jP (by decide) (ao (pv 1)) (fB (v:=.ty "list") rfl T.yK (by decide +kernel) rfl) rfl T.bN (by decide +kernel))) (cH _)) (BL (cA (xO hr.units) Ez (aj (jP (by decide) (ao (pv 0)) (fB (v:=.ty "tuple") rfl T.m8 (by decide +kernel) rfl) rfl T.bN (by decide +kernel))) (aj (jP (by decide) (ao (pv 1)) (fB (v:=.ty "tuple") rfl T.m8 (by decide +kernel) rfl) rfl T.bN (by decide +kernel))) (cH _))))) (aW (cC (au zM))) eY) (aW (cC (uK (iD (lC hr.units) qF (aj (bI cR iH rfl T.jg (by decide +kernel) (aQ (ao (pv 0)) bw))) (aj (bI cR iH rfl T.jg (by decide +kernel) (aQ (ao (pv 1)) bw))) (cH _)) (xR (bI (Pu rfl) XX rfl T.RC (by decide +kernel) (aQ (aj (vq (T:=(.many 2)) (NT:=(["_law_one","_law_other"]:List Str)) (NF:=([]:List Str)) (js:=[]) (wX.ok (N0:=(["_law_found","_law_due"]:List Str)) (Hi:=aN uc) (by decide +kernel) rfl rfl) (⟨_,_,_,rfl,(.cons ⟨_,rfl⟩ (.cons ⟨_,rfl⟩ .nil)),rfl⟩) rfl (X6 rfl T.RJ (aQ (ao (pv 0)) (aQ (ao (pv 1)) bw))) (fun b=>⟨kJ,(aU qu hr rfl (aa (az (pv 0)) (aa (az (pv 1)) aD)))⟩))) bw))))))) eY) (aJ (jc (PW.pt (Fe (cA WT Xv (ao (pv 1)) (aj (au Aq)) (cH _)) (BL (jh (aj (jP (by decide) (ao (pv 1)) (fB (v:=.ty "str") rfl T.GF (by decide +kernel) rfl) rfl T.bN (by decide +kernel))))))) (aW (cC (uK (iD (lC hr.units) qF (ao (pv 0)) (ao (pv 1)) (cH _)) (xR (iD (lC hr.units) qF (aj (jP (by decide) (ao (pv 0)) (fB (v:=.ty "str") rfl T.GF (by decide +kernel) rfl) rfl T.bN (by decide +kernel))) (aj (jP (by decide) (ao (pv 1)) (fB (v:=.ty "str") rfl T.GF (by decide +kernel) rfl) rfl T.bN (by decide +kernel))) (cH _)))))) eY) (aJ (jc (jh (aj (jP (by decide) (ao (pv 1)) (fB (v:=.ty "bool") rfl T.yI (by decide +kernel) rfl) rfl T.bN (by decide +kernel)))) (aW (cC (uK (jP (by decide) (ao (pv 0)) (fB (v:=.ty "bool") rfl T.yI (by decide +kernel) rfl) rfl T.bN (by decide +kernel)) (xR (iD (lC hr.units) qF (ao (pv 0)) (ao (pv 1)) (cH _)))))) eY) (aW (cC (uK (jP (by decide) (ao (pv 0)) (fB (v:=.ty "int") rfl T.yJ (by decide +kernel) rfl) rfl T.bN (by decide +kernel)) (uK (XC (jP (by decide) (ao (pv 0)) (fB (v:=.ty "bool") rfl T.yI (by decide +kernel) rfl) rfl T.bN (by decide +kernel))) (xR (iD (lC hr.units) qF (ao (pv 0)) (ao (pv 1)) (cH _))))))))))
theorem An {P:Program} {w:World} {K:PySem.W.Frag} {mg:Str→Option Value} {base:Heap} {f:Addr} {fd:FuncData} (hm:mg "_law_same"=some (.ref f)) (hk:PySem.W.keepIn K (.ref f)=true) (hb:Binds K fd (["_law_found","_law_due"]:List Str) []) (F:pW K "_law_same" "_law_same" uc f fd) (T:Txt K mg):
  ∀n,j7 P w K mg base "_law_same" n (["_law_found","_law_due"]:List Str) (spT K (gU n))
 | 0=>⟨f,fd,hm,hk,hb,UW⟩
 | n + 1=>⟨f,fd,hm,hk,hb,RM n F T (An hm hk hb F T n)⟩
theorem yS {P:Program} {w:World} {K:PySem.W.Frag} {mg:Str→Option Value} {base:Heap} {f:Addr} {fd:FuncData} (F:pW K "_law_some_names" "_law_some_names" cQ f fd) (T:Txt K mg) (aL:j7 P w K mg base "_law_pick" 2 (["_law_left","_law_many"]:List Str) (spT K aK)):cZ P w K mg base oh 3 f fd (["_law_left","_law_many"]:List Str) (spT K iY):=
 eV (body:=fP) F bJ fun cdv A outer s H E hr=>(aJ (bC (i:=2) bJ.nd rfl (Or.inr rfl) (au uw)) (aJ (bC (i:=3) bJ.nd rfl (Or.inl rfl) (Cr (aj (au uw)) (aj (vq (T:=.one) (NT:=(["_law_turn"]:List Str)) (NF:=(["_law_letters","_law_left"]:List Str)) (js:=[2,0]) (wX.ok (N0:=(["_law_left","_law_many","_law_letters","_law_head","_law_tail","_law_first","_law_by","_law_stem","_law_found","_law_size","_law_k","_law_value","_law_two"]:List Str)) (Hi:=aN cQ) (by decide +kernel) rfl rfl) (⟨_,⟨_,rfl⟩,rfl⟩) rfl (gF rfl T.fX (aj (aU aL (hr.mono (by decide)) rfl (aa (az (pv 0)) (aa (au aC) aD))))) (fun b=>⟨kJ,(bT (bh hr.aO) bU (ao (pv 1)) (aj (aU aL (hr.mono (by decide)) rfl (aa (az (pv 2)) (aa (au aC) aD)))) (fun _ _=>rfl))⟩))))) (aJ (bC (i:=4) bJ.nd rfl (Or.inl rfl) (Cr (aj (au uw)) (aj (vq (T:=.one) (NT:=(["_law_turn"]:List Str)) (NF:=(["_law_letters","_law_left"]:List Str)) (js:=[2,0]) (wX.ok (N0:=(["_law_left","_law_many","_law_letters","_law_head","_law_tail","_law_first","_law_by","_law_stem","_law_found","_law_size","_law_k","_law_value","_law_two"]:List Str)) (Hi:=aN cQ) (by decide +kernel) rfl rfl) (⟨_,⟨_,rfl⟩,rfl⟩) rfl (gF rfl T.fX (aj (aU aL (hr.mono (by decide)) rfl (aa (az (pv 0)) (aa (au aC) aD))))) (fun b=>⟨kJ,(bT (bh hr.aO) bU (ao (pv 1)) (aj (aU aL (hr.mono (by decide)) rfl (aa (az (pv 2)) (aa (au aC) aD)))) (fun _ _=>rfl))⟩))))) (aJ (Kv (is:=[5,6]) (dH (aU aL (hr.mono (by decide)) rfl (aa (az (pv 0)) (aa (au aC) aD))) (dH (bT (bh hr.aO) bU (aj (dm (aa (au aC) (aa (au aC) (aa (au aC) (aa (au aC) (aa (au aC) (aa (au aC) aD)))))))) (aj (aU aL (hr.mono (by decide)) rfl (aa (az (pv 0)) (aa (au aC) aD)))) (fun _ _=>rfl)) rD)) (wG rfl (dj (cz (i:=5) bJ.nd rfl (Or.inr rfl)) (dj (cz (i:=6) bJ.nd rfl (Or.inr rfl)) rR)))) (aJ (jc (cA (lC hr.units) qF (aj (aU aL (hr.mono (by decide)) rfl (aa (az (pv 0)) (aa (au aC) aD)))) (aj (au aC)) (cH _)) (aJ (Kv (is:=[7,8]) (dH (Cr (aj (au uw)) (aj (vq (T:=.one) (NT:=(["_law_k"]:List Str)) (NF:=(["_law_letters","_law_first"]:List Str)) (js:=[2,5]) (wX.ok (N0:=(["_law_left","_law_many","_law_letters","_law_head","_law_tail","_law_first","_law_by","_law_stem","_law_found","_law_size","_law_k","_law_value","_law_two"]:List Str)) (Hi:=aN cQ) (by decide +kernel) rfl rfl) (⟨_,⟨_,rfl⟩,rfl⟩) rfl (gF rfl T.fX (aj (au aC))) (fun b=>⟨kJ,(bT (bh hr.aO) bU (ao (pv 1)) (aj (aM jG jJ (aj (aM bf bM (ao (pv 2)) (aj (aM iu iG (aj (au aC)) (ao (pv 0)))))) (aj (au aC)))) (fun _ _=>rfl))⟩)))) (dH (dm aD) rD)) (wG rfl (dj (cz (i:=7) bJ.nd rfl (Or.inr rfl)) (dj (cz (i:=8) bJ.nd rfl (Or.inl rfl)) rR)))) (aJ (jk PassesOwn.never rfl (Nm rfl T.fX (aQ (aj (au aC)) (aQ (aj (au aC)) bw))) (cz (i:=9) bJ.nd rfl (Or.inr rfl)) cN (aW (Yk (pv 8) (aj (vq (T:=.one) (NT:=(["_law_k"]:List Str)) (NF:=(["_law_stem","_law_size"]:List Str)) (js:=[7,9]) (wX.ok (N0:=(["_law_left","_law_many","_law_letters","_law_head","_law_tail","_law_first","_law_by","_law_stem","_law_found","_law_size","_law_k","_law_value","_law_two"]:List Str)) (Hi:=aN cQ) (by decide +kernel) rfl rfl) (⟨_,⟨_,rfl⟩,rfl⟩) rfl (gF rfl T.fX (aj (aM wI xN (aj (au aC)) (ao (pv 9))))) (fun b=>⟨kJ,(jR (ao (pv 1)) (gf (ao (pv 0))) (gf (aj (aM bf bM (ao (pv 0)) (ao (pv 2))))))⟩)))))) (aW (cC (jR (ao (pv 8)) qL (gf (ao (pv 1)))))))) eY) (aJ (jc (PW.pt (jL (cA (rm hr.Hz) Qo (ao (pv 1)) (aj (au aC)) (cH _)) (qb (cA (lC hr.units) qF (aj (aU aL (hr.mono (by decide)) rfl (aa (az (pv 0)) (aa (au aC) aD)))) (aj (au aC)) (cH _))))) (aW (cC (vq (T:=.one) (NT:=(["_law_k"]:List Str)) (NF:=(["_law_letters","_law_first","_law_by"]:List Str)) (js:=[2,5,6]) (wX.ok (N0:=(["_law_left","_law_many","_law_letters","_law_head","_law_tail","_law_first","_law_by","_law_stem","_law_found","_law_size","_law_k","_law_value","_law_two"]:List Str)) (Hi:=aN cQ) (by decide +kernel) rfl rfl) (⟨_,⟨_,rfl⟩,rfl⟩) rfl (gF rfl T.fX (ao (pv 1))) (fun b=>⟨kJ,(bT (bh hr.aO) bU (ao (pv 1)) (aj (aM jG jJ (aj (aM bf bM (ao (pv 2)) (aj (aM iu iG (ao (pv 3)) (ao (pv 0)))))) (aj (au aC)))) (fun _ _=>rfl))⟩)))) eY) (aJ (bC (i:=8) bJ.nd rfl (Or.inl rfl) (dm aD)) (aJ (jk PassesOwn.never rfl (gF rfl T.fX (ao (pv 1))) (cz (i:=10) bJ.nd rfl (Or.inl rfl)) cN (aJ (bC (i:=11) bJ.nd rfl (Or.inl rfl) (aM jG jJ (aj (aM bf bM (ao (pv 5)) (aj (aM iu iG (ao (pv 6)) (ao (pv 10)))))) (aj (au aC)))) (aJ (bC (i:=12) bJ.nd rfl (Or.inl rfl) (aM bf bM (aj (bT (bh hr.aO) bU (ao (pv 2)) (aj (aM Aw Bw (ao (pv 11)) (aj (au aC)))) (fun _ _=>rfl))) (aj (bT (bh hr.aO) bU (ao (pv 2)) (aj (aM jG jJ (ao (pv 11)) (aj (au aC)))) (fun _ _=>rfl))))) (aW (oZ (pv 8) (aM bf bM (aj (aM bf bM (ao (pv 3)) (ao (pv 12)))) (aj (jR (ao (pv 4)) qL (gf (aj (aM jG jJ (aj (aM bf bM (aj (aM iu iG (ao (pv 10)) (ao (pv 10)))) (ao (pv 5)))) (aj (au aC))))))))))))) (aW (jt (pv 8)))))))))))
theorem Dm {P:Program} {w:World} {K:PySem.W.Frag} {mg:Str→Option Value} {base:Heap} {f:Addr} {fd:FuncData} (F:pW K "_law_two_days" "_law_two_days" pD f fd) (T:Txt K mg) (aL:j7 P w K mg base "_law_pick" 2 (["_law_left","_law_many"]:List Str) (spT K aK)):cZ P w K mg base oh 3 f fd (["_law_left"]:List Str) (spT K gk):=
 eV (body:=pL) F ud fun cdv A outer s H E hr=>(aJ (bC (i:=1) ud.nd rfl (Or.inl rfl) (bT (bh hr.aO) bU (aj (dm (aa (aU aL (hr.mono (by decide)) rfl (aa (az (pv 0)) (aa (au aC) aD))) (aa (aU aL (hr.mono (by decide)) rfl (aa (az (pv 0)) (aa (au aC) aD))) (aa (aM wI xN (aj (au aC)) (aj (aU aL (hr.mono (by decide)) rfl (aa (az (pv 0)) (aa (au aC) aD))))) aD))))) (aj (aU aL (hr.mono (by decide)) rfl (aa (az (pv 0)) (aa (au aC) aD)))) (fun _ _=>rfl))) (aW (cC (f9 (aa (az (pv 1)) (aa (bI (pQ rfl) vY rfl T.yL (by decide +kernel) (aQ (aj (au aC)) (aQ (aj (aM bf bM (ao (pv 1)) (aj (bT (bh hr.aO) bU (aj (dm (aa (au aC) (aa (aU aL (hr.mono (by decide)) rfl (aa (az (pv 0)) (aa (au aC) aD))) (aa (au aC) aD))))) (aj (aU aL (hr.mono (by decide)) rfl (aa (az (pv 0)) (aa (au aC) aD)))) (fun _ _=>rfl))))) bw))) aD))))))
theorem Dp {P:Program} {w:World} {K:PySem.W.Frag} {mg:Str→Option Value} {base:Heap} {f:Addr} {fd:FuncData} (F:pW K "_law_some_sum" "_law_some_sum" pF f fd) (T:Txt K mg) (aL:j7 P w K mg base "_law_pick" 2 (["_law_left","_law_many"]:List Str) (spT K aK)):cZ P w K mg base oh 3 f fd (["_law_left"]:List Str) (spT K dG):=
 eV (body:=pM) F De fun cdv A outer s H E hr=>(aW (cC (bT (bh hr.aO) bU (aj (dm (aa (aU aL (hr.mono (by decide)) rfl (aa (az (pv 0)) (aa (au aC) aD))) (aa (aM bf bM (aj (au aC)) (aj (aU aL (hr.mono (by decide)) rfl (aa (az (pv 0)) (aa (au aC) aD))))) (aa (aM wI xN (aj (aM Hs Iw (aj (au aC)) (aj (au aC)))) (aj (aU aL (hr.mono (by decide)) rfl (aa (az (pv 0)) (aa (au aC) aD))))) aD))))) (aj (aU aL (hr.mono (by decide)) rfl (aa (az (pv 0)) (aa (au aC) aD)))) (fun _ _=>rfl))))
theorem yU {P:Program} {w:World} {K:PySem.W.Frag} {mg:Str→Option Value} {base:Heap} {f:Addr} {fd:FuncData} (F:pW K "_law_some_parts" "_law_some_parts" lJ f fd) (T:Txt K mg) (aL:j7 P w K mg base "_law_pick" 2 (["_law_left","_law_many"]:List Str) (spT K aK)):cZ P w K mg base oh 3 f fd (["_law_left","_law_names"]:List Str) (spT K iZ):=
 eV (body:=lN) F gO fun cdv A outer s H E hr=>(aJ (bC (i:=2) gO.nd rfl (Or.inl rfl) Qw) (aJ (jk PassesOwn.never rfl (Vd rfl T.pH (az (pv 1))) (wG rfl (dj (cz (i:=3) gO.nd rfl (Or.inl rfl)) (dj (cz (i:=4) gO.nd rfl (Or.inl rfl)) rR))) (IW (gC cN (gC cN BW))) (aW (Ca hr.aO (pv 2) (ao (pv 4)) (bT (bh hr.aO) bU (aj (aM bf bM (aj (dm (aa (au uw) aD))) (aj (jR (ao (pv 1)) qL (gf (ao (pv 3))))))) (aj (Qv (cA DR EY (aj (aU aL (hr.mono (by decide)) rfl (aa (az (pv 0)) (aa (au aC) aD)))) (aj (au aC)) (cH _)) (aU aL (hr.mono (by decide)) rfl (aa (az (pv 0)) (aa (aM bf bM (ao (pv 3)) (aj (au aC))) aD))) (au aC))) (fun _ _=>rfl))))) (aW (jt (pv 2)))))
theorem yV {P:Program} {w:World} {K:PySem.W.Frag} {mg:Str→Option Value} {base:Heap} {f:Addr} {fd:FuncData} (F:pW K "_law_parts_over" "_law_parts_over" lK f fd) (T:Txt K mg):cZ P w K mg base oh 1 f fd (["_law_parts","_law_part"]:List Str) (spT K dU):=
 eV (body:=lO) F jU fun cdv A outer s H E hr=>(aJ (bC (i:=2) jU.nd rfl (Or.inl rfl) (dm aD)) (aJ (tG PassesOwn.never (cA (lD hr.aO) qG (ao (pv 1)) (ao (pv 0)) (by with_unfolding_all rfl)) (aJ (oZ (pv 2) (az (pv 1))) (aW (bC (i:=1) jU.nd rfl (Or.inl rfl) (bT (bh hr.aO) bU (ao (pv 0)) (ao (pv 1)) (fun _ _=>rfl)))))) (aW (jt (pv 2)))))
theorem Jz {P:Program} {w:World} {K:PySem.W.Frag} {mg:Str→Option Value} {base:Heap} {f:Addr} {fd:FuncData} (F:pW K "_law_rising" "_law_rising" uV f fd) (T:Txt K mg) (aL:j7 P w K mg base "_law_pick" 2 (["_law_left","_law_many"]:List Str) (spT K aK)):cZ P w K mg base oh 3 f fd (["_law_left","_law_many"]:List Str) (spT K qm):=
 eV (body:=uY) F m7 fun cdv A outer s H E hr=>(aJ (BZ (i:=2) (j:=3) rfl m7.nd rfl rfl (by decide) rfl rfl (dH (dm aD) (dH (aU aL (hr.mono (by decide)) rfl (aa (az (pv 0)) (aa (au aC) aD))) rD)) rfl) (aJ (jk PassesOwn.never rfl (gF rfl T.fX (ao (pv 1))) (cz (i:=4) m7.nd rfl (Or.inl rfl)) cN (aJ (oZ (pv 2) (az (pv 3))) (aW (bC (i:=3) m7.nd rfl (Or.inl rfl) (aM bf bM (aj (aM bf bM (ao (pv 3)) (aj (au aC)))) (aj (aM iu iG (aj (aU aL (hr.mono (by decide)) rfl (aa (az (pv 0)) (aa (au aC) aD)))) (aj (aU aL (hr.mono (by decide)) rfl (aa (az (pv 0)) (aa (au aC) aD))))))))))) (aW (jt (pv 2)))))
theorem vO {P:Program} {w:World} {K:PySem.W.Frag} {mg:Str→Option Value} {base:Heap} {f:Addr} {fd:FuncData} (F:pW K "_law_some_leaves" "_law_some_leaves" jV f fd) (T:Txt K mg) (aL:j7 P w K mg base "_law_pick" 2 (["_law_left","_law_many"]:List Str) (spT K aK)) (gm:j7 P w K mg base "_law_two_days" 3 (["_law_left"]:List Str) (spT K gk)) (dg:j7 P w K mg base "_law_some_sum" 3 (["_law_left"]:List Str) (spT K dG)) (dW:j7 P w K mg base "_law_parts_over" 1 (["_law_parts","_law_part"]:List Str) (spT K dU)) (uZ:j7 P w K mg base "_law_rising" 3 (["_law_left","_law_many"]:List Str) (spT K qm)):cZ P w K mg base oh 4 f fd (["_law_left","_law_parts","_law_people","_law_many","_law_paper","_law_day"]:List Str) (spT K gW):=
 eV (body:=jW) F cj fun cdv A outer s H E hr=>(aJ (BZ (i:=6) (j:=7) rfl cj.nd rfl rfl (by decide) rfl rfl (dH (dm aD) (dH (aU dW (hr.mono (by decide)) rfl (aa (az (pv 1)) (aa (bT (bh hr.aO) bU (ao (pv 4)) (aj (au aC)) (fun _ _=>rfl)) aD))) rD)) rfl) (aJ (jk PassesOwn.never rfl (Nf (aU uZ (hr.mono (by decide)) rfl (aa (az (pv 0)) (aa (aM iu iG (ao (pv 3)) (aj (mD pR Cm rfl T.yJ (by decide +kernel) (aQ (aj (iD DR EY (aj (bI cR iH rfl T.jg (by decide +kernel) (aQ (ao (pv 2)) bw))) (aj (au aC)) (cH _))) bw)))) aD)))) (cz (i:=8) cj.nd rfl (Or.inl rfl)) cN (aJ (bC (i:=9) cj.nd rfl (Or.inl rfl) (aU aL (hr.mono (by decide)) rfl (aa (az (pv 0)) (aa (bI cR iH rfl T.jg (by decide +kernel) (aQ (ao (pv 2)) bw)) aD)))) (aJ (bC (i:=10) cj.nd rfl (Or.inl rfl) (aM jG jJ (aj (aM bf bM (aj (aM bf bM (ao (pv 9)) (aj (au aC)))) (aj (aM iu iG (aj (aU aL (hr.mono (by decide)) rfl (aa (az (pv 0)) (aa (aM wI xN (aj (bI cR iH rfl T.jg (by decide +kernel) (aQ (ao (pv 2)) bw))) (aj (au aC))) aD)))) (aj (aU aL (hr.mono (by decide)) rfl (aa (az (pv 0)) (aa (au aC) aD)))))))) (aj (bI cR iH rfl T.jg (by decide +kernel) (aQ (ao (pv 2)) bw))))) (aJ (Vi (i:=11) (j:=12) (k:=13) rfl cj.nd rfl rfl rfl (by decide) (by decide) (by decide) rfl rfl rfl (dH (bT (bh hr.aO) bU (aj (bI (gK rfl) tZ rfl T.gQ (by decide +kernel) (aQ (ao (pv 1)) bw))) (aj (aU aL (hr.mono (by decide)) rfl (aa (az (pv 0)) (aa (bI cR iH rfl T.jg (by decide +kernel) (aQ (ao (pv 1)) bw)) aD)))) (fun _ _=>rfl)) (dH (aU gm (hr.mono (by decide)) rfl (aa (az (pv 0)) aD)) (dH (aU dg (hr.mono (by decide)) rfl (aa (az (pv 0)) aD)) rD))) rfl) (aJ (jc (PW.pt (jL (cA DR EY (aj (aU aL (hr.mono (by decide)) rfl (aa (az (pv 0)) (aa (au aC) aD)))) (aj (au aC)) (cH _)) (qb (cA (xO hr.units) Ez (ao (pv 7)) (aj (dm aD)) (cH _))))) (aJ (bC (i:=11) cj.nd rfl (Or.inl rfl) (bT (bh hr.aO) bU (ao (pv 7)) (aj (aU aL (hr.mono (by decide)) rfl (aa (az (pv 0)) (aa (bI cR iH rfl T.jg (by decide +kernel) (aQ (ao (pv 7)) bw)) aD)))) (fun _ _=>rfl))) (aJ (bC (i:=12) cj.nd rfl (Or.inl rfl) (f9 (aa (bI (Mg rfl) UG rfl T.RG (by decide +kernel) (aQ (aj (au aC)) (aQ (aj (aM wI xN (ao (pv 5)) (aj (aU aL (hr.mono (by decide)) rfl (aa (az (pv 0)) (aa (au aC) aD)))))) bw))) (aa (bI (pQ rfl) vY rfl T.yL (by decide +kernel) (aQ (aj (au aC)) (aQ (aj (aM bf bM (ao (pv 5)) (aj (aU aL (hr.mono (by decide)) rfl (aa (az (pv 0)) (aa (au aC) aD)))))) bw))) aD)))) (aW (bC (i:=13) cj.nd rfl (Or.inl rfl) (bI (pQ rfl) vY rfl T.yL (by decide +kernel) (aQ (aj (aM Hs Iw (aj (au aC)) (aj (au aC)))) (aQ (aj (aM bf bM (aj (bT (bh hr.aO) bU (ao (pv 4)) (aj (au aC)) (fun _ _=>rfl))) (aj (aU aL (hr.mono (by decide)) rfl (aa (az (pv 0)) (aa (au aC) aD)))))) bw))))))) eY) (aW (oZ (pv 6) (aM bf bM (aj (aM bf bM (aj (f9 (aa (az (pv 8)) (aa (bT (bh hr.aO) bU (ao (pv 2)) (ao (pv 9)) (fun _ _=>rfl)) (aa (bT (bh hr.aO) bU (ao (pv 2)) (ao (pv 10)) (fun _ _=>rfl)) (aa (az (pv 11)) aD)))))) (ao (pv 12)))) (aj (f9 (aa (az (pv 13)) aD))))))))))) (aW (jt (pv 6)))))
theorem Dq {P:Program} {w:World} {K:PySem.W.Frag} {mg:Str→Option Value} {base:Heap} {f:Addr} {fd:FuncData} (F:pW K "_law_house_of" "_law_house_of" pG f fd) (T:Txt K mg):cZ P w K mg base oh 1 f fd (["_law_parts","_law_leaves"]:List Str) (spT K lq):=
 eV (body:=pN) F Df fun cdv A outer s H E hr=>(aW (cC (f9 (aa (mD qC FW rfl T.m8 (by decide +kernel) (aQ (aj (Nu rfl (ao (pv 0)) rfl T.gQ)) bw)) (aa (f9 aD) (aa (mD qC FW rfl T.m8 (by decide +kernel) (aQ (ao (pv 1)) bw)) (aa (f9 aD) aD)))))))
theorem RN {P:Program} {w:World} {K:PySem.W.Frag} {mg:Str→Option Value} {base:Heap} {f:Addr} {fd:FuncData} (F:pW K "_law_case" "_law_case" Dg f fd) (T:Txt K mg) (aL:j7 P w K mg base "_law_pick" 2 (["_law_left","_law_many"]:List Str) (spT K aK)) (lQ:j7 P w K mg base "_law_some_names" 3 (["_law_left","_law_many"]:List Str) (spT K iY)) (gm:j7 P w K mg base "_law_two_days" 3 (["_law_left"]:List Str) (spT K gk)) (dg:j7 P w K mg base "_law_some_sum" 3 (["_law_left"]:List Str) (spT K dG)) (lR:j7 P w K mg base "_law_some_parts" 3 (["_law_left","_law_names"]:List Str) (spT K iZ)) (jY:j7 P w K mg base "_law_some_leaves" 4 (["_law_left","_law_parts","_law_people","_law_many","_law_paper","_law_day"]:List Str) (spT K gW)):cZ P w K mg base oh 5 f fd (["_law_left","_law_most"]:List Str) (spT K wA):=
 eV (body:=Dj) F gP fun cdv A outer s H E hr=>(aJ (bC (i:=2) gP.nd rfl (Or.inl rfl) (aU lQ (hr.mono (by decide)) rfl (aa (az (pv 0)) (aa (au aC) aD)))) (aJ (bC (i:=3) gP.nd rfl (Or.inl rfl) (aU lR (hr.mono (by decide)) rfl (aa (az (pv 0)) (aa (jR (ao (pv 2)) qL (gf (aj (aM bf bM (aj (au aC)) (aj (aU aL (hr.mono (by decide)) rfl (aa (az (pv 0)) (aa (au aC) aD)))))))) aD)))) (aJ (bC (i:=4) gP.nd rfl (Or.inl rfl) (jR (ao (pv 2)) (gf (aj (au aC))) (gf (aj (aM bf bM (aj (aM bf bM (aj (au aC)) (aj (au aC)))) (aj (aU aL (hr.mono (by decide)) rfl (aa (az (pv 0)) (aa (bT (bh hr.aO) bU (aj (dm (aa (au aC) (aa (au aC) (aa (au aC) aD))))) (aj (aU aL (hr.mono (by decide)) rfl (aa (az (pv 0)) (aa (au aC) aD)))) (fun _ _=>rfl)) aD))))))))) (aJ (bC (i:=5) gP.nd rfl (Or.inl rfl) (aM bf bM (ao (pv 4)) (aj (jR (ao (pv 2)) (gf (aj (au aC))) (gf (aj (au aC))))))) (aJ (bC (i:=6) gP.nd rfl (Or.inl rfl) (f9 (aa (bT (bh hr.aO) bU (ao (pv 5)) (aj (aU aL (hr.mono (by decide)) rfl (aa (az (pv 0)) (aa (bI cR iH rfl T.jg (by decide +kernel) (aQ (ao (pv 5)) bw)) aD)))) (fun _ _=>rfl)) (aa (bT (bh hr.aO) bU (ao (pv 5)) (aj (aU aL (hr.mono (by decide)) rfl (aa (az (pv 0)) (aa (bI cR iH rfl T.jg (by decide +kernel) (aQ (ao (pv 5)) bw)) aD)))) (fun _ _=>rfl)) aD)))) (aJ (jc (cA DR EY (aj (aU aL (hr.mono (by decide)) rfl (aa (az (pv 0)) (aa (au aC) aD)))) (aj (au aC)) (cH _)) (aW (bC (i:=6) gP.nd rfl (Or.inl rfl) (f9 (aa (bT (bh hr.aO) bU (ao (pv 2)) (aj (au aC)) (fun _ _=>rfl)) (aa (bT (bh hr.aO) bU (ao (pv 2)) (aj (aM bf bM (aj (au aC)) (aj (aU aL (hr.mono (by decide)) rfl (aa (az (pv 0)) (aa (au aC) aD)))))) (fun _ _=>rfl)) aD))))) eY) (aJ (bC (i:=7) gP.nd rfl (Or.inl rfl) (bT (bh hr.aO) bU (aj (aM bf bM (aj (bI (gK rfl) tZ rfl T.gQ (by decide +kernel) (aQ (ao (pv 3)) bw))) (aj (jR (ao (pv 2)) (gf (aj (au aC))) (gf (aj (au aC))))))) (aj (aU aL (hr.mono (by decide)) rfl (aa (az (pv 0)) (aa (aM bf bM (aj (bI cR iH rfl T.jg (by decide +kernel) (aQ (ao (pv 3)) bw))) (aj (mD pR Cm rfl T.yJ (by decide +kernel) (aQ (aj (iD (lC hr.units) qF (aj (aU aL (hr.mono (by decide)) rfl (aa (az (pv 0)) (aa (au aC) aD)))) (aj (au aC)) (cH _))) bw)))) aD)))) (fun _ _=>rfl))) (aJ (BZ (i:=8) (j:=9) rfl gP.nd rfl rfl (by decide) rfl rfl (dH (aM bf bM (aj (f9 (aa (az (pv 7)) (aa (aU dg (hr.mono (by decide)) rfl (aa (az (pv 0)) aD)) aD)))) (ao (pv 6))) (dH (bT (bh hr.aO) bU (aj (aU gm (hr.mono (by decide)) rfl (aa (az (pv 0)) aD))) (aj (aU aL (hr.mono (by decide)) rfl (aa (az (pv 0)) (aa (au aC) aD)))) (fun _ _=>rfl)) rD)) rfl) (aW (cC (f9 (aa (az (pv 3)) (aa (az (pv 4)) (aa (aU jY (hr.mono (by decide)) rfl (aa (az (pv 0)) (aa (az (pv 3)) (aa (az (pv 4)) (aa (aU aL (hr.mono (by decide)) rfl (aa (az (pv 0)) (aa (aM bf bM (ao (pv 1)) (aj (au aC))) aD))) (aa (az (pv 8)) (aa (az (pv 9)) aD))))))) (aa (az (pv 8)) (aa (az (pv 9)) aD))))))))))))))))
theorem RP {P:Program} {w:World} {K:PySem.W.Frag} {mg:Str→Option Value} {base:Heap} {f:Addr} {fd:FuncData} (F:pW K "_law_lets" "_law_lets" Dh f fd) (T:Txt K mg) (dW:j7 P w K mg base "_law_parts_over" 1 (["_law_parts","_law_part"]:List Str) (spT K dU)):cZ P w K mg base oh 2 f fd (["_law_parts","_law_paper","_law_day","_law_leave"]:List Str) (spT K wB):=
 eV (body:=qt) F Rz fun cdv A outer s H E hr=>(aJ (jc (PW.pt (Fe (cA (lD hr.aO) qG (aj (bT (bh hr.aO) bU (ao (pv 3)) (aj (au aC)) (fun _ _=>rfl))) (aj (jR (ao (pv 1)) (gf (aj (au aC))) qL)) (by with_unfolding_all rfl)) (Fe (cA (lD hr.aO) qG (aj (bT (bh hr.aO) bU (ao (pv 3)) (aj (au aC)) (fun _ _=>rfl))) (aj (jR (ao (pv 1)) (gf (aj (au aC))) qL)) (by with_unfolding_all rfl)) (BL (cA (mC hr.aO) oW (aj (bT (bh hr.aO) bU (ao (pv 3)) (aj (au aC)) (fun _ _=>rfl))) (aj (aU dW (hr.mono (by decide)) rfl (aa (az (pv 0)) (aa (bT (bh hr.aO) bU (ao (pv 1)) (aj (au aC)) (fun _ _=>rfl)) aD)))) (by with_unfolding_all rfl)))))) (aW (cC (au zM))) eY) (aW (cC (uK (Xy uI z8 uI z8 (aj (bT (bh hr.aO) bU (ao (pv 3)) (aj (au aC)) (fun _ _=>rfl))) (ao (pv 2)) (aj (bT (bh hr.aO) bU (ao (pv 3)) (aj (au aC)) (fun _ _=>rfl)))) (xR (iD uI z8 (aj (bT (bh hr.aO) bU (ao (pv 1)) (aj (au aC)) (fun _ _=>rfl))) (aj (bT (bh hr.aO) bU (ao (pv 3)) (aj (au aC)) (fun _ _=>rfl))) (cH _)))))))
theorem GK {P:Program} {w:World} {K:PySem.W.Frag} {mg:Str→Option Value} {base:Heap} {f:Addr} {fd:FuncData} (F:pW K "_law_come_to" "_law_come_to" rJ f fd) (T:Txt K mg) (Dr:j7 P w K mg base "_law_lets" 2 (["_law_parts","_law_paper","_law_day","_law_leave"]:List Str) (spT K wB)):cZ P w K mg base oh 3 f fd (["_law_parts","_law_leaves","_law_paper","_law_holder","_law_day"]:List Str) (spT K jX):=
 eV (body:=rM) F kY fun cdv A outer s H E hr=>(aJ (bC (i:=5) kY.nd rfl (Or.inl rfl) (aM U5 U6 (aj (dm (aa (az (pv 3)) aD))) (aj (mD pR Cm rfl T.yJ (by decide +kernel) (aQ (aj (iD (mC hr.aO) oW (ao (pv 3)) (aj (jR (ao (pv 2)) (gf (aj (au aC))) qL)) (by with_unfolding_all rfl))) bw))))) (aJ (jk PassesOwn.never rfl (Nf (az (pv 1))) (cz (i:=6) kY.nd rfl (Or.inl rfl)) cN (aW (jk PassesOwn.never rfl (Nf (az (pv 1))) (cz (i:=7) kY.nd rfl (Or.inl rfl)) cN (aW (jc (PW.pt (jL (cA (lD hr.aO) qG (aj (bT (bh hr.aO) bU (ao (pv 7)) (aj (au aC)) (fun _ _=>rfl))) (ao (pv 5)) (by with_unfolding_all rfl)) (jL (cA (mC hr.aO) oW (aj (bT (bh hr.aO) bU (ao (pv 7)) (aj (au aC)) (fun _ _=>rfl))) (ao (pv 5)) (by with_unfolding_all rfl)) (qb (jh (aj (aU Dr (hr.mono (by decide)) rfl (aa (az (pv 0)) (aa (az (pv 2)) (aa (az (pv 4)) (aa (az (pv 7)) aD))))))))))) (aW (oZ (pv 5) (bT (bh hr.aO) bU (ao (pv 7)) (aj (au aC)) (fun _ _=>rfl)))) eY))))) (aW (cC (bI (Ji rfl) Ra rfl T.gQ (by decide +kernel) (aQ (ao (pv 5)) bw))))))
theorem Yn {P:Program} {w:World} {K:PySem.W.Frag} {mg:Str→Option Value} {base:Heap} {f:Addr} {fd:FuncData} (F:pW K "law" "law" RB f fd) (T:Txt K mg) (yW:j7 P w K mg base "row_of" 3 (["house","paper","holder","signer","day"]:List Str) (spT K ue)) (jC:j7 P w K mg base "signers_of" 3 (["house","paper","holder","day"]:List Str) (spT K gR)) (lU:j7 P w K mg base "_law_drawn_from" 1 (["_law_script","_law_k"]:List Str) (spT K iW)) (aL:j7 P w K mg base "_law_pick" 2 (["_law_left","_law_many"]:List Str) (spT K aK)) (qu:j7 P w K mg base "_law_same" 3 (["_law_found","_law_due"]:List Str) (spT K (gU 3))) (dg:j7 P w K mg base "_law_some_sum" 3 (["_law_left"]:List Str) (spT K dG)) (pP:j7 P w K mg base "_law_house_of" 1 (["_law_parts","_law_leaves"]:List Str) (spT K lq)) (Ds:j7 P w K mg base "_law_case" 5 (["_law_left","_law_most"]:List Str) (spT K wA)) (nF:j7 P w K mg base "_law_come_to" 3 (["_law_parts","_law_leaves","_law_paper","_law_holder","_law_day"]:List Str) (spT K jX)):cZ P w K mg base oh 6 f fd (["_law_script"]:List Str) (spT K Am):=
 eV (body:=RK) F dY fun cdv A outer s H E hr=>(aJ (jk PassesOwn.never rfl (gF rfl T.fX (aj (aM bf bM (aj (au aC)) (aj (bI (pQ rfl) vY rfl T.yL (by decide +kernel) (aQ (aj (au aC)) (aQ (aj (KH (pv 0) rfl T.jg (by decide +kernel))) bw))))))) (cz (i:=1) dY.nd rfl (Or.inl rfl)) cN (aJ (XJ (i:=2) dY.nd rfl (Or.inl rfl) (aU lU (hr.mono (by decide)) rfl (aa (az (pv 0)) (aa (az (pv 1)) aD)))) (aJ (QC (aU Ds (hr.mono (by decide)) rfl (aa (az (pv 2)) (aa (au aC) aD))) (wG rfl (dj (cz (i:=3) dY.nd rfl (Or.inl rfl)) (dj (cz (i:=4) dY.nd rfl (Or.inl rfl)) (dj (cz (i:=5) dY.nd rfl (Or.inl rfl)) (dj (cz (i:=6) dY.nd rfl (Or.inl rfl)) (dj (cz (i:=7) dY.nd rfl (Or.inl rfl)) rR)))))) (IW (gC cN (gC cN (gC cN (gC cN (gC cN BW))))))) (aJ (BZ (i:=8) (j:=9) rfl dY.nd rfl rfl (by decide) rfl rfl (dH (aU pP (hr.mono (by decide)) rfl (aa (az (pv 3)) (aa (az (pv 5)) aD))) (dH (aM bf bM (ao (pv 4)) (aj (dm (aa (bT (bh hr.aO) bU (ao (pv 6)) (aj (au aC)) (fun _ _=>rfl)) aD)))) rD)) rfl) (aW (jk PassesOwn.never rfl (gF rfl T.fX (aj (au aC))) (cz (i:=10) dY.nd rfl (Or.inl rfl)) cN (aJ (bC (i:=11) dY.nd rfl (Or.inl rfl) (aM bf bM (aj (f9 (aa (bT (bh hr.aO) bU (aj (bI (gK rfl) tZ rfl T.gQ (by decide +kernel) (aQ (ao (pv 3)) bw))) (aj (aU aL (hr.mono (by decide)) rfl (aa (az (pv 2)) (aa (bI cR iH rfl T.jg (by decide +kernel) (aQ (ao (pv 3)) bw)) aD)))) (fun _ _=>rfl)) (aa (aU dg (hr.mono (by decide)) rfl (aa (az (pv 2)) aD)) aD)))) (aj (jR (ao (pv 6)) (gf (aj (au aC))) qL)))) (aJ (bC (i:=11) dY.nd rfl (Or.inl rfl) (Qv (cA (lC hr.units) qF (ao (pv 10)) (aj (au aC)) (cH _)) (az (pv 6)) (az (pv 11)))) (aJ (jk PassesOwn.never rfl (Nf (aM bf bM (aj (jR (ao (pv 9)) qL (gf (aj (au aC))))) (aj (jR (ao (pv 9)) (gf (aj (XD (aj (au aC))))) qL)))) (cz (i:=12) dY.nd rfl (Or.inl rfl)) cN (aJ (bC (i:=13) dY.nd rfl (Or.inl rfl) (aU nF (hr.mono (by decide)) rfl (aa (az (pv 3)) (aa (az (pv 5)) (aa (az (pv 11)) (aa (az (pv 12)) (aa (az (pv 7)) aD))))))) (aJ (bC (i:=14) dY.nd rfl (Or.inl rfl) (aU jC (hr.mono (by decide)) rfl (aa (az (pv 8)) (aa (az (pv 11)) (aa (az (pv 12)) (aa (az (pv 7)) aD)))))) (aJ (jc (BK (jh (aj (aU qu (hr.mono (by decide)) rfl (aa (az (pv 14)) (aa (az (pv 13)) aD)))))) (aW (cC (au zM))) eY) (aJ (oZ (pv 14) (au uw)) (aW (jc (BK (jh (aj (aU qu (hr.mono (by decide)) rfl (aa (aU jC (hr.mono (by decide)) rfl (aa (az (pv 8)) (aa (az (pv 11)) (aa (az (pv 12)) (aa (az (pv 7)) aD))))) (aa (az (pv 13)) aD)))))) (aW (cC (au zM))) eY))))))) (aJ (bC (i:=12) dY.nd rfl (Or.inl rfl) (bT (bh hr.aO) bU (ao (pv 9)) (aj (aU aL (hr.mono (by decide)) rfl (aa (az (pv 2)) (aa (bI cR iH rfl T.jg (by decide +kernel) (aQ (ao (pv 9)) bw)) aD)))) (fun _ _=>rfl))) (aJ (bC (i:=13) dY.nd rfl (Or.inl rfl) (aU nF (hr.mono (by decide)) rfl (aa (az (pv 3)) (aa (az (pv 5)) (aa (az (pv 11)) (aa (az (pv 12)) (aa (az (pv 7)) aD))))))) (aW (jk PassesOwn.never rfl (Nf (az (pv 9))) (cz (i:=15) dY.nd rfl (Or.inl rfl)) cN (aW (jc (cA (xO hr.units) Ez (aj (iD Te Ul (aj (aU yW (hr.mono (by decide)) rfl (aa (az (pv 8)) (aa (az (pv 11)) (aa (az (pv 12)) (aa (az (pv 15)) (aa (az (pv 7)) aD))))))) (aj (au Aq)) (cH _))) (aj (iD (lD hr.aO) qG (ao (pv 15)) (ao (pv 13)) (by with_unfolding_all rfl))) (cH _)) (aW (cC (au zM))) eY))))))))))))))) (aW (cC (au zM))))
local macro_rules | `(tactic| simp_arith [$ts,*])=>`(tactic| simp only [e_bin,e_dat,e_bv,e_and,e_or,e_not,e_if,e_ifv,fVar,fTst,fTru,truD,fCst,dat,still,fCal,fFun,aCons,aNil,bCons,bNil,oCons,fSet,fSeq,fRet,fRetV,fNext,fNeg,fLst,fTup,allIm,iB,iV,iB2,iV2,itD,itD2,fLC,frB,fPar,setM,fUnp,gTp,gsCons,gsNil,gNm,LIM,add_int,sub_int,le_int,lt_int,ge_int,gt_int,eq_int,eq_strs,ne_strs,in_strs,ix_t,ix_l,a_t0,a_t1,a_t2,a_t3,a_t4,a_t5,a_t6,rst_same,r_ow,r_bool,r_int,r_str,r_tl,Option.bind_some,Option.map_some,List.getElem?_cons_zero,List.getElem?_cons_succ,List.set_cons_zero,List.set_cons_succ,List.map_cons,List.map_nil,List.length_cons,List.length_nil,Bool.not_true,Bool.not_false,if_true,if_false,ite_self,Bool.false_eq_true,Option.join,id_eq,Nat.reduceAdd,Nat.reduceLeDiff,Nat.reduceLT,and_true,true_and,and_self,String.reduceBEq,Bool.or_false,Bool.or_true,Bool.false_or,Bool.true_or,Bool.and_true,Bool.and_false,Bool.true_and,Bool.false_and,decide_true,decide_false,reduceCtorEq,eq_bool,ne_bool,ne_int,len_l,len_t,beq_self_eq_true,List.length_map,h_ix0,h_ix1,h_ix2,h_ix3,k_ix0,k_ix1,k_ix2,k_ix3,k_ix4,k_ix5,noLs_strs,noLs_ints,imO,putO,intD,strD,cond_true,cond_false,$ts,*])
theorem RQ {C:Ce} {c k:Int} (k0:0≤k) (k1:k≤1000000):∃r:Int,yM [.im (.int c),.im (.int k)] C=some (.im (.int r),C)∧0≤r:=by
 obtain ⟨m,hm⟩:∃m,(c % 2147483629 + k * k * 7919 + 11) * 48271 % 2147483647=m:=⟨_,rfl⟩
 have m0:0≤m:=by rw [←hm];exact Int.emod_nonneg _ (by decide)
 have m1:m < 2147483647:=by rw [←hm];exact Int.emod_lt_of_pos _ (by decide)
 refine ⟨m * m % 1999999973,cD [some (.im (.int c)),some (.im (.int k)),none] rfl rfl ?_ rfl rfl,Int.emod_nonneg _ (by decide)⟩;simp_arith [Jw,mod_eq (i:=c) (j:=2147483629) (by decide),mul_eq (i:=k) (j:=k) (.inl (by omega)),mul_eq (i:=k * k) (j:=7919) (.inr (by decide)),mul_eq (i:=c % 2147483629 + k * k * 7919 + 11) (j:=48271) (.inr (by decide)),mod_eq (i:=(c % 2147483629 + k * k * 7919 + 11) * 48271) (j:=2147483647) (by decide),hm,mul_eq (i:=m) (j:=m) (.inl (by omega)),mod_eq (i:=m * m) (j:=1999999973) (by decide)]
theorem aX {C:Ce} {b L k:Nat} {m:Int} (h:Bl L C b (k + 1)) (h0:0 < m) (h1:m < 1073741824):
  ∃t C',aK [.ce b,.im (.int m)] C=some (.im (.int t),C')∧0≤t∧t < m∧Bl L C' b k:=by
 obtain ⟨hL,x,y,z,hc,hx,hz,hz2⟩:=h;have i0:HN 3 0=some 0:=rfl;have i2:HN 3 2=some 2:=rfl;have c2:(C.set b [x,y,z + 1])[b]?=some [x,y,z + 1]:=Rc hc;by_cases hp:0 < x
 ·refine ⟨x % m,(C.set b [x,y,z + 1]).set b [x / m,y,z + 1],cD [some (.ce b),some (.im (.int m)),none] rfl rfl ?_ rfl (by simp),Int.emod_nonneg _ (by omega),Int.emod_lt_of_pos _ h0,⟨by simpa using hL,x / m,y,z + 1,Rc c2,Int.ediv_nonneg hx (by omega),by omega,by omega⟩⟩;simp_arith [wu,yo,hc,c2,hp,mod_eq h0,fdiv_eq h0 h1,zB,tD,i0,i2]
 ·obtain ⟨r1,e1,p1⟩:=RQ (C:=C.set b [x,y,z + 1]) (c:=y) (k:=z + 1) (by omega) (by omega);obtain ⟨r2,e2,p2⟩:=RQ (C:=C.set b [x,y,z + 1]) (c:=r1) (k:=z + 1 + 64) (by omega) (by omega);refine ⟨r2 / 64 % m,C.set b [x,y,z + 1],cD [some (.ce b),some (.im (.int m)),none] rfl rfl ?_ rfl (by simp),Int.emod_nonneg _ (by omega),Int.emod_lt_of_pos _ h0,⟨by simpa using hL,x,y,z + 1,c2,hx,by omega,by omega⟩⟩;simp_arith [wu,yo,hc,c2,hp,zB,tD,i0,i2,e1,e2,fdiv_eq (j:=64) (by omega) (by omega),mod_eq h0]
theorem RT {C:Ce} {ns:List Int} {k:Int} (k0:0≤k) (k9:k≤100):∃x y:Int,iW [.sc ns,.im (.int k)] C=some (.ow (.list [.int x,.int y,.int 0]),C)∧0≤x:=by
 obtain ⟨c,hc⟩:∃c:Int,BP (fTst (aH By (aG 1) (aq (vz 0)))) (QV 0 (aG 1)) (fCst (.int 0)) [some (.sc ns),some (.im (.int k)),none] C=some (.im (.int c),[some (.sc ns),some (.im (.int k)),none],C):=by
  by_cases h:k < ns.length
  ·obtain ⟨c,hc,_⟩:=Rf (xs:=ns) k0 h;exact ⟨c,by simp_arith [vz,QV,h,hc]⟩
  ·exact ⟨0,by simp_arith [vz,h]⟩
 have a0:0≤(if c < 0 then -c else c):=by split <;> omega
 obtain ⟨a,hA⟩:∃a,(if c < 0 then -c else c)=a:=⟨_,rfl⟩
 rw [hA] at a0;have pw:vo (.int 10) (.int 18)=some (.im (.int 1000000000000000000)):=rfl;obtain ⟨j,x,hj,hx,x0⟩:∃(j x:Int),(if decide (1000000000000000000≤a)=true then (1:Int) else 0)=j∧n6 [PyData.int 0,.int a] j=some (.int x)∧0≤x:=by
  by_cases h:1000000000000000000≤a
  ·exact ⟨1,a,by rw [if_pos (decide_eq_true h)],rfl,a0⟩
  ·exact ⟨0,0,by rw [if_neg (by simpa using h)],rfl,Int.le_refl _⟩
 refine ⟨x,c + 1000003 * k,cD [some (.sc ns),some (.im (.int k)),none] rfl rfl ?_ rfl rfl,x0⟩;simp_arith [lM,↓hc,FP,hA,pw,qK,hj,hx,mul_eq (i:=1000003) (j:=k) (.inl (by decide))]
theorem Vk {fe:FE} (he:fe=aH bH (aG 1) (aq (fCal aK (aCons (fVar 2) (aCons (fCst (.int 26)) aNil))))) {C:Ce} {b L j:Nat} {size:Int} (h:Bl L C b (j + 3)) (h0:0≤size) (h1:size≤3):
  ∃(cs:List Nat) (C':Ce),gH .one gZ fe [some (.im (.str abc)),some (.ce b)] (ju 0 size.toNat) C=some ((cs.map fun c=>.str ⟨#[c]⟩),C')∧cs.length=size.toNat∧(∀c∈cs,97≤c∧c≤122)∧Bl L C' b j:=by
 subst he;refine hide fun GG gg=>?_
 obtain ⟨ys,C',e,hB,hl,hr⟩:=Ad (T:=.one) (fe:=aH bH (aG 1) (aq (fCal aK (aCons (fVar 2) (aCons (fCst (.int 26)) aNil))))) (fs:=[some (.im (.str abc)),some (.ce b)]) (fun i C1=>Bl L C1 b (j + (3 - i))) (fun _ y=>∃c:Nat,y=.str ⟨#[c]⟩∧97≤c∧c≤122) (its:=ju 0 size.toNat) (C:=C) (k:=0) h (fun i d C1 hd hB=>by
  obtain ⟨rfl,hi⟩:=qg hd;rw [Nat.zero_add] at hB ⊢;rw [Yj j (by omega:i < 3)] at hB;obtain ⟨k1,C2,e1,a1,b1,wC⟩:=aX (m:=26) hB (by decide) (by decide);refine ⟨_,.im (.str ⟨#[97 + k1.toNat]⟩),[some (.im (.int (0 + i))),some (.im (.str abc)),some (.ce b)],C2,.str ⟨#[97 + k1.toNat]⟩,rfl,?_,rfl,⟨_,rfl,by omega,by omega⟩,wC⟩;simp_arith [mO,List.cons_append,List.nil_append,e1,bH,letters k1 a1 b1])
 rw [tR] at hB hl;obtain ⟨cs,rfl,hcs⟩:∃cs:List Nat,ys=cs.map (fun c=>.str ⟨#[c]⟩)∧∀c∈cs,97≤c∧c≤122:=by
  clear e hl hB gg;induction ys with
  | nil=>exact ⟨[],rfl,fun _ m=>(nomatch m)⟩
  | cons y ys ih=>
   obtain ⟨c,rfl,c1,c2⟩:=hr 0 y rfl;obtain ⟨cs,rfl,h2⟩:=ih fun i z hz=>hr (i + 1) z (by simpa using hz)
   exact ⟨c::cs,rfl,fun x hx=>by
    rcases List.mem_cons.mp hx with rfl | hx
    ·exact ⟨c1,c2⟩
    ·exact h2 x hx⟩
 exact gg ⟨cs,C',e,by simpa using hl,hcs,hB.mono (Nat.le_add_right _ _)⟩
theorem Le {cs:List Nat} (h:cs.length≤100):∃z:Str,Cq (.str (Str.ofString "")) (.list (cs.map fun c=>.str ⟨#[c]⟩))=some (.im (.str z))∧z.cps.toList=cs∧z.length=cs.length:=by
 refine ⟨Txt.join (Str.ofString "") (cs.map fun c=>⟨#[c]⟩),?_,yq cs,?_⟩
 ·simp only [Cq,tW];refine if_pos ?_;rw [List.map_map,KN,Np,Nat.mul_zero];unfold LIM;omega
 ·have:=congrArg List.length (yq cs);rw [←this];show _=(Txt.join (Str.ofString "") (cs.map fun c=>⟨#[c]⟩)).cps.toList.length;simp;rfl
theorem Dt (n:Nat):ju 0 n=(List.range n).map fun (i:Nat)=>PyData.int (i:Int):=by
 unfold ju;refine List.map_congr_left fun i _=>?_
 rw [Int.zero_add]
theorem Nz {C:Ce} (f:Int):gH .one gZ fG [some (.im (.str abc)),some (.im (.int f))] (ju 0 8) C=some ((jf f).map (fun c=>.str ⟨#[c]⟩),C):=by
 rw [Dt];have:=eZ (T:=.one) (ft:=gZ) (fe:=fG) (fs:=[some (.im (.str abc)),some (.im (.int f))]) (C:=C) (fun (i:Nat)=>PyData.int (i:Int)) (fun _=>true) (fun (k:Nat)=>.str ⟨#[97 + ((f + 5 * (k:Int)) % 26).toNat]⟩) (l:=List.range 8) fun k _=>by
  have a1:0≤(f + 5 * (k:Int)) % 26:=Int.emod_nonneg _ (by decide);have a2:(f + 5 * (k:Int)) % 26 < 26:=Int.emod_lt_of_pos _ (by decide);refine ⟨[.int (k:Int)],rfl,rfl,fun _=>⟨.im (.str ⟨#[97 + ((f + 5 * (k:Int)) % 26).toNat]⟩),[some (.im (.int (k:Int))),some (.im (.str abc)),some (.im (.int f))],?_,rfl⟩⟩;simp_arith [mO,List.cons_append,List.nil_append,mul_eq (i:=5) (j:=(k:Int)) (.inl (by decide)),mod_eq (i:=f + 5 * (k:Int)) (j:=26) (by decide),bH,letters _ a1 a2]
 rw [List.filter_eq_self.mpr fun _ _=>rfl] at this;unfold jf;rw [List.map_map];exact this
theorem RV {C:Ce} {f s:Int} (s0:0 < s) (s1:s≤675) (n:Nat):gH .one gZ fD [some (.im (.str abc)),some (.im (.int f)),some (.im (.int s))] (ju 0 n) C=some (((List.range n).map (n1 f s)).map .str,C):=by
 rw [Dt];have:=eZ (T:=.one) (ft:=gZ) (fe:=fD) (fs:=[some (.im (.str abc)),some (.im (.int f)),some (.im (.int s))]) (C:=C) (fun (i:Nat)=>PyData.int (i:Int)) (fun _=>true) (fun (k:Nat)=>.str (n1 f s k)) (l:=List.range n) fun k _=>by
  have a1:0≤(f + s * (k:Int)) % 26:=Int.emod_nonneg _ (by decide);have a2:(f + s * (k:Int)) % 26 < 26:=Int.emod_lt_of_pos _ (by decide);refine ⟨[.int (k:Int)],rfl,rfl,fun _=>⟨.im (.str (n1 f s k)),[some (.im (.int (k:Int))),some (.im (.str abc)),some (.im (.int f)),some (.im (.int s))],?_,rfl⟩⟩;simp_arith [mO,List.cons_append,List.nil_append,mul_eq (i:=s) (j:=(k:Int)) (.inl (by omega)),mod_eq (i:=f + s * (k:Int)) (j:=26) (by decide),bH,letters _ a1 a2];rfl
 rw [List.filter_eq_self.mpr fun _ _=>rfl] at this;rw [List.map_map];exact this
theorem RW {C:Ce} {z:Str} (hz:z.length≤8) (n:Nat):gH .one gZ iM [some (.im (.str z)),some (.im (.int (1 + (n:Int))))] (ju 0 (8 - n)) C=some ((sb z n).map .str,C):=by
 rw [Dt];have hl:(z.length≤1000000)=True:=eq_true (by omega);have:=eZ (T:=.one) (ft:=gZ) (fe:=iM) (fs:=[some (.im (.str z)),some (.im (.int (1 + (n:Int))))]) (C:=C) (fun (i:Nat)=>PyData.int (i:Int)) (fun _=>true) (fun (k:Nat)=>.str (sl z (n + 1) k)) (l:=List.range (8 - n)) fun k _=>by
  refine ⟨[.int (k:Int)],rfl,rfl,fun _=>⟨.im (.str (sl z (n + 1) k)),[some (.im (.int (k:Int))),some (.im (.str z)),some (.im (.int (1 + (n:Int))))],?_,rfl⟩⟩;have e:(k:Int) + (1 + (n:Int))=(k:Int) + ((n + 1:Nat):Int):=by omega
  simp_arith [mO,List.cons_append,List.nil_append,qe,m5,Hj,hl,e];rfl
 rw [List.filter_eq_self.mpr fun _ _=>rfl] at this;unfold sb;rw [List.map_map];exact this
theorem R0 {x y:Str} (h:x.length + y.length≤1000000):aY (.str x) (.str y)=some (.im (.str (x++y))):=if_pos h
abbrev oE (b:Nat) (m:Int) (hd tl:Str) (f s:Int) (v7 v8 v9 v10 v11 gb:Option Vl):En:=
 [some (.ce b),some (.im (.int m)),some (.im (.str abc)),some (.im (.str hd)),some (.im (.str tl)),some (.im (.int f)),some (.im (.int s)),v7,v8,v9,v10,v11,gb]
theorem aah {C:Ce} {b:Nat} {m f s k q:Int} {hd tl:Str} {v7 v8 v9 v11 gb:Option Vl} (k0:0≤k) (k1:k < 40) (hq:(k * k + f) % 4=q):aH fO (aq (aH aY (aq (aH eN (aG 10) (aG 10))) (aG 5))) (aq (fCst (.int 4))) (oE b m hd tl f s v7 v8 v9 (some (.im (.int k))) v11 gb) C=some (.im (.int q),oE b m hd tl f s v7 v8 v9 (some (.im (.int k))) v11 gb,C):=by
 have m1:eN (.int k) (.int k)=some (.im (.int (k * k))):=mul_eq (.inl (by omega));generalize k * k=kk at m1 hq;have m2:fO (.int (kk + f)) (.int 4)=some (.im (.int ((kk + f) % 4))):=mod_eq (by omega);rw [hq] at m2;simp_arith [oE,m1,m2]
theorem aai {C:Ce} {b:Nat} {m f s k q:Int} {hd tl cut:Str} {v7 v8 v9 v11 gb:Option Vl} (k0:0≤k) (k1:k < 40) (hq:(k * k + f) % 4=q) (ht:tl.length≤3) (hc:Txt.slice tl none (some q)=cut):qe (aG 4) vB (m5 (aq (aH fO (aq (aH aY (aq (aH eN (aG 10) (aG 10))) (aG 5))) (aq (fCst (.int 4)))))) (oE b m hd tl f s v7 v8 v9 (some (.im (.int k))) v11 gb) C=some (.im (.str cut),oE b m hd tl f s v7 v8 v9 (some (.im (.int k))) v11 gb,C):=by
 have e:=aah (C:=C) (b:=b) (m:=m) (s:=s) (hd:=hd) (tl:=tl) (v7:=v7) (v8:=v8) (v9:=v9) (v11:=v11) (gb:=gb) k0 k1 hq;have q1:(tl.length≤1000000)=True:=eq_true (by omega);simp only [oE] at e ⊢;simp_arith [qe,vB,m5,↓e,Hj,q1,hc]
theorem Yo {C:Ce} {b:Nat} {m f s k q v:Int} {hd tl cut tw ht nm:Str} {acc:List PyData} {v7 v9:Option Vl} (k0:0≤k) (k1:k < 40) (hq:(k * k + f) % 4=q) (hl:tl.length≤3) (hc:Txt.slice tl none (some q)=cut) (t2:aY (.str hd) (.str tw)=some (.im (.str ht))) (t3:aY (.str ht) (.str cut)=some (.im (.str nm))) (la:(acc.length < 1000000)=True):
  lF 8 (aH aY (aq (aH aY (aG 3) (aG 12))) (aq (qe (aG 4) vB (m5 (aq (aH fO (aq (aH aY (aq (aH eN (aG 10) (aG 10))) (aG 5))) (aq (fCst (.int 4))))))))) (oE b m hd tl f s v7 (some (.ow (.list acc))) v9 (some (.im (.int k))) (some (.im (.int v))) (some (.im (.str tw)))) C=some (.nx,oE b m hd tl f s v7 (some (.ow (.list (acc++[.str nm])))) v9 (some (.im (.int k))) (some (.im (.int v))) (some (.im (.str tw))),C):=by
 have e:=aai (C:=C) (b:=b) (m:=m) (s:=s) (hd:=hd) (tl:=tl) (v7:=v7) (v8:=some (.ow (.list acc))) (v9:=v9) (v11:=some (.im (.int v))) (gb:=some (.im (.str tw))) k0 k1 hq hl hc;simp only [oE] at e ⊢;simp_arith [lF,jO,t2,↓e,t3,la]
theorem Yp {C:Ce} {b:Nat} {m f s:Int} {hd tl z:Str} {i:Nat} {v10 v11 gb:Option Vl} (hz:z.length=8) (hi:i < 8):
  cV (oE b m hd tl f s (some (.im (.str z))) (some (.ow (.list ((subs z i).map .str)))) (some (.im (.int (1 + (i:Int))))) v10 v11 gb) C=some (.nx,oE b m hd tl f s (some (.im (.str z))) (some (.ow (.list ((subs z (i + 1)).map .str)))) (some (.im (.int (1 + (i:Int))))) v10 v11 gb,C):=by
 have e:=RW (C:=C) (z:=z) (by omega) i;have e1:(9 - (1 + (i:Int))).toNat=8 - i:=by omega
 have l1:(sb z i).length≤8:=by unfold sb;rw [List.length_map,List.length_range];omega
 have l2:(subs z i).length≤64:=by
  unfold subs sb;rw [List.length_flatMap];have:∀n,n≤8→((List.range n).map fun a=>((List.range (8 - a)).map (sl z (a + 1))).length).sum≤8 * n:=by
   intro n;induction n with
   | zero=>intro _;exact Nat.le_refl _
   | succ n ih=>
    intro h;rw [List.range_succ,List.map_append,List.sum_append];have:=ih (by omega);simp only [List.map_cons,List.map_nil,List.sum_cons,List.sum_nil,List.length_map,List.length_range] at this ⊢;omega
  have:=this i (by omega);omega
 have q1:((sb z i).length≤1000000)=True:=eq_true (by omega);have q2:((subs z i).length + (sb z i).length≤1000000)=True:=eq_true (by omega);have es:subs z (i + 1)=subs z i++sb z i:=by
  unfold subs;rw [List.range_succ,List.flatMap_append,List.flatMap_singleton]
 rw [es,List.map_append];simp_arith [cV,oE,U7,jO,vM,Gr (m:=9 - (1 + (i:Int))) (by omega) (by omega),e1,e,q1,q2]
theorem Yq {C:Ce} {b:Nat} {m f s:Int} {hd tl:Str} {i:Nat} {v7 v9 v11 gb:Option Vl} (f0:0≤f) (f1:f < 676) (s0:0 < s) (s1:s≤675) (hi:i < 40) (hh:hd.length≤3) (ht:tl.length≤3):
  ∃w11 w12,cU (oE b m hd tl f s v7 (some (.ow (.list (((List.range i).map (n2 hd tl f s fun k=>((k:Int) * k + f) % 4)).map .str)))) v9 (some (.im (.int (i:Int)))) v11 gb) C
   =some (.nx,oE b m hd tl f s v7 (some (.ow (.list (((List.range (i + 1)).map (n2 hd tl f s fun k=>((k:Int) * k + f) % 4)).map .str)))) v9 (some (.im (.int (i:Int)))) w11 w12,C):=by
 obtain ⟨v,hv⟩:∃v,v2 f s i=v:=⟨_,rfl⟩
 have hv':(f + s * (i:Int)) % 676=v:=hv;have v0:0≤v:=by rw [←hv];exact Int.emod_nonneg _ (by decide)
 have v1:v < 676:=by rw [←hv];exact Int.emod_lt_of_pos _ (by decide)
 have a1:0≤v / 26:=Int.ediv_nonneg v0 (by decide);have a2:v / 26 < 26:=by omega
 have a3:0≤v % 26:=Int.emod_nonneg _ (by decide);have a4:v % 26 < 26:=Int.emod_lt_of_pos _ (by decide);have t1:aY (.str ⟨#[97 + (v / 26).toNat]⟩) (.str ⟨#[97 + (v % 26).toNat]⟩)=some (.im (.str (two v))):=R0 (by show 1 + 1≤1000000;omega);have lt:(two v).length=2:=by
  show ((#[97 + (v / 26).toNat]:Array Nat)++#[97 + (v % 26).toNat]).size=2;rw [Array.size_append];rfl
 have t2:aY (.str hd) (.str (two v))=some (.im (.str (hd++two v))):=R0 (by rw [lt];omega);have l3:=PyProof.Txt.length_slice_le tl none (some (((i:Int) * i + f) % 4));have l4:(hd++two v).length=hd.length + 2:=by
  show (hd.cps++(two v).cps).size=hd.cps.size + 2;rw [Array.size_append,show (two v).cps.size=2 from lt]
 have t3:aY (.str (hd++two v)) (.str (Txt.slice tl none (some (((i:Int) * i + f) % 4))))=some (.im (.str (n2 hd tl f s (fun k=>((k:Int) * k + f) % 4) i))):=by
  unfold n2;rw [hv];exact R0 (by rw [l4];omega)
 have q1:(tl.length≤1000000)=True:=eq_true (by omega);have q2:(i < 1000000)=True:=eq_true (by omega);obtain ⟨acc,hacc⟩:∃acc,acc=((List.range i).map (n2 hd tl f s fun k=>((k:Int) * k + f) % 4)).map PyData.str:=⟨_,rfl⟩
 have la:(acc.length < 1000000)=True:=eq_true (by rw [hacc,List.length_map,List.length_map,List.length_range];omega);have hn:((List.range (i + 1)).map (n2 hd tl f s fun k=>((k:Int) * k + f) % 4)).map PyData.str=acc++[.str (n2 hd tl f s (fun k=>((k:Int) * k + f) % 4) i)]:=by
  rw [List.range_succ,List.map_append,List.map_append,hacc];rfl
 rw [hn,←hacc];clear hn hacc;generalize n2 hd tl f s (fun k=>((k:Int) * k + f) % 4) i=nm at t3 ⊢;obtain ⟨cut,Yr⟩:∃c,Txt.slice tl none (some (((i:Int) * i + f) % 4))=c:=⟨_,rfl⟩
 rw [Yr] at t3;have s1:fSet 11 (aH fO (aq (aH aY (aG 5) (aq (aH eN (aG 6) (aG 10))))) (aq (fCst (.int 676)))) (oE b m hd tl f s v7 (some (.ow (.list acc))) v9 (some (.im (.int (i:Int)))) v11 gb) C=some (.nx,oE b m hd tl f s v7 (some (.ow (.list acc))) v9 (some (.im (.int (i:Int)))) (some (.im (.int v))) gb,C):=by
  simp_arith [oE,mul_eq (i:=s) (j:=(i:Int)) (.inl (by omega)),mod_eq (i:=f + s * (i:Int)) (j:=676) (by omega),hv']
 have s2:fSet 12 (aH aY (aq (aH bH (aG 2) (aq (aH oV (aG 11) (aq (fCst (.int 26))))))) (aq (aH bH (aG 2) (aq (aH fO (aG 11) (aq (fCst (.int 26)))))))) (oE b m hd tl f s v7 (some (.ow (.list acc))) v9 (some (.im (.int (i:Int)))) (some (.im (.int v))) gb) C=some (.nx,oE b m hd tl f s v7 (some (.ow (.list acc))) v9 (some (.im (.int (i:Int)))) (some (.im (.int v))) (some (.im (.str (two v)))),C):=by
  simp_arith [oE,fdiv_eq (i:=v) (j:=26) (by omega) (by omega),mod_eq (i:=v) (j:=26) (by omega),bH,letters _ a1 a2,letters _ a3 a4,t1]
 obtain ⟨q,hq⟩:∃q,((i:Int) * (i:Int) + f) % 4=q:=⟨_,rfl⟩
 rw [hq] at Yr;have s3:=Yo (C:=C) (b:=b) (m:=m) (s:=s) (v:=v) (v7:=v7) (v9:=v9) (by omega) (by omega) hq ht Yr t2 t3 la;refine ⟨some (.im (.int v)),some (.im (.str (two v))),?_⟩;unfold cU;simp only [fSeq,s1,s2,s3]
theorem Lf {fe:FE} (he:fe=aH bH (aG 1) (aq (fCal aK (aCons (fVar 2) (aCons (fCst (.int 26)) aNil))))) {C:Ce} {b L j:Nat} {v1 v3 v4 v5 v6 v7 v8 v9 v10 v11 gb:Option Vl} (h:Bl L C b (j + 4)):
  ∃(z:Str) (C':Ce),o9 (aq (fCst (.str (Str.ofString "")))) (aq (fLC (vM (aq (fCal aK (aCons (fVar 0) (aCons (fCst (.int 4)) aNil))))) .one gZ fe [2,0])) [some (.ce b),v1,some (.im (.str abc)),v3,v4,v5,v6,v7,v8,v9,v10,v11,gb] C=some (.im (.str z),[some (.ce b),v1,some (.im (.str abc)),v3,v4,v5,v6,v7,v8,v9,v10,v11,gb],C')∧z.length≤3∧(∀c∈z.cps.toList,97≤c∧c≤122)∧Bl L C' b j:=by
 refine hide fun GG gg=>?_
 obtain ⟨k1,C1,e1,a1,b1,wC⟩:=aX (m:=4) h (by decide) (by decide);obtain ⟨cs,C2,e2,l2,hc,hB2⟩:=Vk he (j:=j) (size:=k1) wC a1 (by omega);obtain ⟨z,e3,e4,e5⟩:=Le (cs:=cs) (by omega);have g5:(k1.toNat≤1000000)=True:=eq_true (by omega);refine gg ⟨z,C2,?_,by omega,by rw [e4];exact hc,hB2⟩;simp_arith [o9,vM,e1,Gr (m:=k1) (by omega) (by omega),e2,l2,g5,rH,e3]
theorem Ys {C:Ce} {b L j:Nat} {m:Int} (R:FS) (h:Bl L C b (j + 10)):
  ∃(hd tl:Str) (f s:Int) (C':Ce),(fSeq (fSet 2 (fCst (.str (Str.ofString "abcdefghijklmnopqrstuvwxyz")))) (fSeq (fSet 3 (o9 (aq (fCst (.str (Str.ofString "")))) (aq (fLC (vM (aq (fCal aK (aCons (fVar 0) (aCons (fCst (.int 4)) aNil))))) .one gZ iR [2,0])))) (fSeq (fSet 4 (o9 (aq (fCst (.str (Str.ofString "")))) (aq (fLC (vM (aq (fCal aK (aCons (fVar 0) (aCons (fCst (.int 4)) aNil))))) .one gZ iQ [2,0])))) (fSeq (fPar [5,6] (oCons (fCal aK (aCons (fVar 0) (aCons (fCst (.int 676)) aNil))) (oCons (aH bH (aq (fLst (aCons (fCst (.int 1)) (aCons (fCst (.int 3)) (aCons (fCst (.int 5)) (aCons (fCst (.int 7)) (aCons (fCst (.int 25)) (aCons (fCst (.int 675)) aNil)))))))) (aq (fCal aK (aCons (fVar 0) (aCons (fCst (.int 6)) aNil))))) aNil))) R)))) [some (.ce b),some (.im (.int m)),none,none,none,none,none,none,none,none,none,none,none] C
   =R (oE b m hd tl f s none none none none none none) C'∧hd.length≤3∧tl.length≤3∧(∀c∈hd.cps.toList,97≤c∧c≤122)∧(∀c∈tl.cps.toList,97≤c∧c≤122)∧0≤f∧f < 676∧Gy s∧Bl L C' b j:=by
 refine hide fun GG gg=>?_
 obtain ⟨hd,C1,e1,l1,c1,wC⟩:=Lf (fe:=iR) rfl (j:=j + 6) (v1:=some (.im (.int m))) (v3:=none) (v4:=none) (v5:=none) (v6:=none) (v7:=none) (v8:=none) (v9:=none) (v10:=none) (v11:=none) (gb:=none) h;obtain ⟨tl,C2,e2,l2,c2,hB2⟩:=Lf (fe:=iQ) rfl (j:=j + 2) (v1:=some (.im (.int m))) (v3:=some (.im (.str hd))) (v4:=none) (v5:=none) (v6:=none) (v7:=none) (v8:=none) (v9:=none) (v10:=none) (v11:=none) (gb:=none) wC;obtain ⟨f,C3,e3,f0,f1,hB3⟩:=aX (m:=676) hB2 (by decide) (by decide);obtain ⟨k,C4,e4,k0,k1,SJ⟩:=aX (m:=6) hB3 (by decide) (by decide);obtain ⟨s,e5,hs⟩:=step_at k0 k1;refine gg ⟨hd,tl,f,s,C4,?_,l1,l2,c1,c2,f0,f1,hs,SJ⟩;simp_arith [↓e1,↓e2,e3,e4,e5]
section
variable {C:Ce} {b:Nat} {m f s:Int} {hd tl:Str}
theorem abU {v10 v11 gb:Option Vl} (z:Str) (hz:z.length=8) (v9:Option Vl):∃w9,eO (gNm 9) cV (ju 1 8) (oE b m hd tl f s (some (.im (.str z))) (some (.ow (.list []))) v9 v10 v11 gb) C=some (.nx,oE b m hd tl f s (some (.im (.str z))) (some (.ow (.list ((subs z 8).map .str)))) w9 v10 v11 gb,C):=by
 obtain ⟨env',C',e,w9,he,hC⟩:=iI (g:=gNm 9) (body:=cV) (its:=ju 1 8) (env:=oE b m hd tl f s (some (.im (.str z))) (some (.ow (.list []))) v9 v10 v11 gb) (C:=C)
  (fun i env C1=>∃w9,env=oE b m hd tl f s (some (.im (.str z))) (some (.ow (.list ((subs z i).map .str)))) w9 v10 v11 gb∧C1=C) ⟨v9,rfl,rfl⟩ (fun i d env C1 hd hI=>by
   obtain ⟨w9,rfl,rfl⟩:=hI;obtain ⟨rfl,hi⟩:=qg hd;exact ⟨_,.nx,_,C1,rfl,Yp hz hi,.inl rfl,_,rfl,rfl⟩)
 rw [tR] at he;subst he;subst hC;exact ⟨w9,e⟩
theorem abV {v7 v9 v11 gb:Option Vl} {n:Nat} (hn:n≤30) (f0:0≤f) (f1:f < 676) (hs:Gy s) (hh:hd.length≤3) (ht:tl.length≤3) (v10:Option Vl):
  ∃w10 w11 w12,eO (gNm 10) cU (ju 0 n) (oE b m hd tl f s v7 (some (.ow (.list []))) v9 v10 v11 gb) C=some (.nx,oE b m hd tl f s v7 (some (.ow (.list (((List.range n).map (n2 hd tl f s fun k=>((k:Int) * k + f) % 4)).map .str)))) v9 w10 w11 w12,C):=by
 obtain ⟨env',C',e,w10,w11,w12,he,hC⟩:=iI (g:=gNm 10) (body:=cU) (its:=ju 0 n) (env:=oE b m hd tl f s v7 (some (.ow (.list []))) v9 v10 v11 gb) (C:=C)
  (fun i env C1=>∃w10 w11 w12,env=oE b m hd tl f s v7 (some (.ow (.list (((List.range i).map (n2 hd tl f s fun k=>((k:Int) * k + f) % 4)).map .str)))) v9 w10 w11 w12∧C1=C) ⟨v10,v11,gb,rfl,rfl⟩ (fun i d env C1 hd' hI=>by
   obtain ⟨w10,w11,w12,rfl,rfl⟩:=hI;obtain ⟨rfl,hi⟩:=qg hd';rw [Int.zero_add];obtain ⟨u11,u12,e⟩:=Yq (C:=C1) (b:=b) (m:=m) (v7:=v7) (v9:=v9) (v11:=w11) (gb:=w12) (i:=i) f0 f1 hs.1.1 hs.1.2 (by omega) hh ht;exact ⟨_,.nx,_,C1,rfl,e,.inl rfl,_,u11,u12,rfl,rfl⟩)
 rw [tR] at he;subst he;subst hC;exact ⟨w10,w11,w12,e⟩
end
theorem JB {zs:List Str} {m:Int} (m0:0≤m) (m1:m≤zs.length):jQ (zs.map PyData.str) none (some m)=(zs.take m.toNat).map .str:=by
 obtain ⟨k,rfl⟩:∃k:Nat,m=(k:Int):=⟨m.toNat,by omega⟩
 unfold jQ;rw [List.length_map,HT.Az,show HT.fJ zs.length 0 none=0 from rfl,List.drop_zero,Nat.sub_zero,List.map_take,Int.toNat_natCast,Nat.min_eq_left (by omega)]
theorem R3 {C:Ce} {b L j:Nat} {m:Int} (h:Bl L C b (j + 12)) (m0:0≤m) (m1:m≤30):
  ∃(zs:List Str) (C':Ce),iY [.ce b,.im (.int m)] C=some (.ow (.list (zs.map .str)),C')∧Names zs∧zs.length=m.toNat∧Bl L C' b j:=by
 refine hide fun GG gg=>?_
 obtain ⟨R,hR⟩:∃R:FS,R=fSeq (jr (fTst (aH mZ (aq (fCal aK (aCons (fVar 0) (aCons (fCst (.int 4)) aNil)))) (aq (fCst (.int 0))))) (fSeq (fPar [7,8] (oCons (o9 (aq (fCst (.str (Str.ofString "")))) (aq (fLC (vM (aq (fCst (.int 8)))) .one gZ fG [2,5]))) (oCons (fLst aNil) aNil))) (fSeq (gG (Rm (aq (fCst (.int 1))) (aq (fCst (.int 9)))) (gNm 9) cV) (fRet (qe (aG 8) vB (m5 (aG 1)))))) fNext) (fSeq (jr (ie (fTst (aH By (aG 1) (aq (fCst (.int 27))))) (fTst (aH mZ (aq (fCal aK (aCons (fVar 0) (aCons (fCst (.int 3)) aNil)))) (aq (fCst (.int 0)))))) (fRet (fLC (vM (aG 1)) .one gZ fD [2,5,6])) fNext) (fSeq (fSet 8 (fLst aNil)) (fSeq (gG (vM (aG 1)) (gNm 10) cU) (fRetV 8)))):=⟨_,rfl⟩
 obtain ⟨hd,tl,f,s,C1,e1,l1,l2,c1,c2,f0,f1,hs,wC⟩:=Ys (m:=m) (j:=j + 2) R h;rw [hR] at e1;obtain ⟨k,C2,e2,a2,b2,hB2⟩:=aX (m:=4) wC (by decide) (by decide);by_cases hk:k=0
 ·subst hk;obtain ⟨z,e3,e4,e5⟩:=Le (cs:=jf f) (by simp [jf]);have hz:z.length=8:=by rw [e5];simp [jf]
  have st:=Nz (C:=C2) f;obtain ⟨w9,e6⟩:=abU (C:=C2) (b:=b) (m:=m) (f:=f) (s:=s) (hd:=hd) (tl:=tl) (v10:=none) (v11:=none) (gb:=none) z hz none;have ct:=JB (zs:=subs z 8) m0 (by rw [GC];omega);have nm:=Js e4;have q:((jf f).length≤1000000)=True:=eq_true (by simp [jf]);refine gg ⟨(subs z 8).take m.toNat,C2,cD [some (.ce b),some (.im (.int m)),none,none,none,none,none,none,none,none,none,none,none] rfl rfl ?_ rfl (h.eq hB2),⟨nm.1.sublist (List.take_sublist _ _),fun x hx=>nm.2 x (List.mem_of_mem_take hx)⟩,by rw [List.length_take,GC];omega,hB2.mono (by omega)⟩;unfold fP;rw [e1];have i8:Int.toNat 8=8:=rfl;have i9:Int.toNat (9 - 1)=8:=rfl;have rg2:(-(2 ^ 62)≤(1:Int)∧(1:Int) < 2 ^ 62∧-(2 ^ 62)≤(9:Int)∧(9:Int) < 2 ^ 62)=True:=eq_true (by decide);simp only [oE] at e6;simp_arith [oE,e2,o9,vM,Gr (m:=(8:Int)) (by decide) (by decide),i8,st,q,rH,e3,Rm,rg2,i9,gG,e6,qe,vB,m5,Hj,ct]
 ·have hk':(k==0)=false:=beq_eq_false_iff_ne.mpr hk;have fin:∀C3,Bl L C3 b j→ie (fTst (aH By (aG 1) (aq (fCst (.int 27))))) (fTst (aH mZ (aq (fCal aK (aCons (fVar 0) (aCons (fCst (.int 3)) aNil)))) (aq (fCst (.int 0))))) (oE b m hd tl f s none none none none none none) C2=some (false,C3)→GG:=fun C3 hB3 ht=>by
   obtain ⟨w10,w11,w12,e7⟩:=abV (C:=C3) (b:=b) (m:=m) (v7:=none) (v9:=none) (v11:=none) (gb:=none) (n:=m.toNat) (by omega) f0 f1 hs l1 l2 none;refine gg ⟨_,C3,cD [some (.ce b),some (.im (.int m)),none,none,none,none,none,none,none,none,none,none,none] rfl rfl ?_ rfl (h.eq hB3),Ru (f:=f) (q:=fun k=>((k:Int) * k + f) % 4) (n:=m.toNat) hs (by omega) l1 l2 c1 c2,by rw [List.length_map,List.length_range],hB3⟩;unfold fP;rw [e1];simp only [oE] at e7 ht;simp_arith [oE,e2,hk',↓ht,gG,vM,Gr (m:=m) (by omega) (by omega),e7]
  by_cases h27:m < 27
  ·obtain ⟨k6,C3,e3,a3,b3,hB3⟩:=aX (m:=3) hB2 (by decide) (by decide);by_cases hk6:k6=0
   ·subst hk6;have lc:=RV (C:=C3) (f:=f) (s:=s) hs.1.1 hs.1.2 m.toNat;have q:(m.toNat≤1000000)=True:=eq_true (by omega);refine gg ⟨_,C3,cD [some (.ce b),some (.im (.int m)),none,none,none,none,none,none,none,none,none,none,none] rfl rfl ?_ rfl (h.eq hB3),Rt (f:=f) (n:=m.toNat) hs (by omega),by rw [List.length_map,List.length_range],hB3⟩;unfold fP;rw [e1];simp_arith [oE,e2,hk',h27,e3,vM,Gr (m:=m) (by omega) (by omega),lc,List.length_range,q]
   ·have abX:(k6==0)=false:=beq_eq_false_iff_ne.mpr hk6;exact fin C3 hB3 (by simp_arith [oE,h27,e3,abX])
  ·exact fin C2 hB2.dec (by simp_arith [oE,h27])
theorem NB {C:Ce} {b L j:Nat} {zs:List Str} (h:Bl L C b (j + 16)) (h8:zs.length≤8) (hz:Names zs):
  ∃(ps:List (Str×Str)) (C':Ce),iZ [.ce b,.im (.list (zs.map .str))] C=some (.ow (.dict (cI (bG ps))),C')∧bQ zs ps∧ps.length=zs.length∧Bl L C' b j:=by
 refine hide fun GG gg=>?_
 obtain ⟨env',C',e,ps,v3,v4,he,hl,hP,hB⟩:=iI (g:=gTp 2 (gsCons (gNm 3) (gsCons (gNm 4) gsNil))) (body:=dD) (its:=yz (zs.map .str)) (env:=[some (.ce b),some (.im (.list (zs.map .str))),some (.ow (.dict [])),none,none]) (C:=C)
  (fun i env C2=>∃(ps:List (Str×Str)) (v3 v4:Option Vl),env=[some (.ce b),some (.im (.list (zs.map .str))),some (.ow (.dict (cI (bG ps)))),v3,v4]∧ps.length=i∧bQ zs ps∧Bl L C2 b (j + 2 * (8 - i)))
  ⟨[],none,none,rfl,rfl,(fun i x e=>by simp at e),h⟩ (fun i d env C2 hd hI=>by
   obtain ⟨ps,v3,v4,rfl,hl,hP,hB⟩:=hI;obtain ⟨x,hx,rfl⟩:=Gu hd;obtain ⟨z,hz1,rfl⟩:=Yi hx;refine hide fun GG gg=>?_
   have hi:i < zs.length:=(List.getElem?_eq_some_iff.mp hz1).1;rw [K6 j 2 (by omega:i < 8)] at hB;obtain ⟨k1,C3,e1,a1,b1,wC⟩:=aX (m:=4) hB (by decide) (by decide);have ct:=JB (zs:=zs) (m:=(i:Int)) (by omega) (by omega);rw [Int.toNat_natCast] at ct;have ad:aY (.list [.str (Str.ofString "")]) (.list ((zs.take i).map .str))=some (.ow (.list (PyData.str (Str.ofString "")::(zs.take i).map .str))):=add_l (xs:=[.str (Str.ofString "")]) (by rw [List.length_map,List.length_take];show 1 + _≤_;omega);have g:((cI (bG ps)).length < 1000000)=True:=eq_true (by unfold cI bG;rw [List.length_map,List.length_map];omega);have fin:∀(t:Int) (C4:Ce),0≤t→t≤i→Bl L C4 b (j + 2 * (8 - (i + 1)))→(∀y:Str,n6 (PyData.str (Str.ofString "")::(zs.take i).map .str) t=some (.str y)→putD (cI (bG ps)) (.str z) (.str y)=some (cI (bG (ps++[(z,y)])))→
     dD [some (.ce b),some (.im (.list (zs.map .str))),some (.ow (.dict (cI (bG ps)))),some (.im (.int (i:Int))),some (.im (.str z))] C2=some (.nx,[some (.ce b),some (.im (.list (zs.map .str))),some (.ow (.dict (cI (bG (ps++[(z,y)]))))),some (.im (.int (i:Int))),some (.im (.str z))],C4))→GG:=fun t C4 t0 t1 hB2 run=>by
    obtain ⟨y,my,hy1,iy⟩:=dN (zs:=Str.ofString ""::zs.take i) (k:=t) t0 (by rw [List.length_cons,List.length_take];omega);have hy2:y=Str.ofString ""∨∃j,j < ps.length∧zs[j]?=some y:=by
     rcases List.mem_cons.mp my with rfl | my
     ·exact .inl rfl
     ·obtain ⟨jj,hj,e⟩:=List.getElem_of_mem my;rw [List.length_take] at hj;refine .inr ⟨jj,by omega,?_⟩;rw [List.getElem_take] at e;rw [←e];exact List.getElem?_eq_getElem (by omega)
    have pu:putD (cI (bG ps)) (.str z) (.str y)=some (cI (bG (ps++[(z,y)]))):=by
     rw [Gp (l:=bG ps) (z:=z) (d:=.str y)]
     ·unfold bG;rw [List.map_append];rfl
     ·unfold bG;rw [List.map_map];intro hm;obtain ⟨q,hq,e⟩:=List.mem_map.mp hm;obtain ⟨jj,hj,rfl⟩:=List.getElem_of_mem hq;have g1:=(hP jj ps[jj] (List.getElem?_eq_getElem hj)).1;have e:ps[jj].1=z:=e;rw [e] at g1;obtain ⟨x1,y1⟩:=List.getElem?_eq_some_iff.mp g1;obtain ⟨x2,y2⟩:=List.getElem?_eq_some_iff.mp hz1;exact List.pairwise_iff_getElem.mp hz.1 jj i x1 x2 (by omega) (y1.trans y2.symm)
    rw [List.map_cons] at iy;exact gg ⟨_,.nx,_,C4,rfl,run y iy pu,.inl rfl,ps++[(z,y)],_,_,rfl,by simp [hl],hP.snoc (by rw [hl];exact hz1) hy2,hB2⟩
   by_cases hk:0 < k1
   ·obtain ⟨t,C4,e3,t0,t1,hB2⟩:=aX (m:=(i:Int) + 1) wC (by omega) (by omega);exact fin t C4 t0 (by omega) hB2 fun y iy pu=>by simp_arith [dD,qe,vB,m5,Hj,ct,ad,e1,hk,e3,iy,zB,tD,pu,g]
   ·exact fin 0 C3 (by omega) (by omega) wC.dec fun y iy pu=>by simp_arith [dD,qe,vB,m5,Hj,ct,ad,e1,hk,iy,zB,tD,pu,g])
 rw [Ai,List.length_map] at hl hB;subst he;refine gg ⟨ps,C',cD [some (.ce b),some (.im (.list (zs.map .str))),none,none,none] rfl rfl ?_ rfl (h.eq hB),hP,hl,hB.mono (Nat.le_add_right _ _)⟩;simp_arith [lN,IK,gG,iEn,e]
theorem R4 {C:Ce} {ps:List (Str×Str)}:∀{z:Str} {os:List Str},Over (dz ps) z os→∀(n:Nat) (acc:List Str),os.length < n→acc.length + os.length < 1000→
  ∃z',dw mH mJ n [some (.im (.dict (cI (bG ps)))),some (.im (.str z)),some (.ow (.list (acc.map .str)))] C=some (.nx,[some (.im (.dict (cI (bG ps)))),some (.im (.str z')),some (.ow (.list ((acc++os).map .str)))],C):=by
 have hin:∀z,j8 (.str z) (.dict (cI (bG ps)))=some (.im (.bool (dz ps z).isSome)):=fun z=>by
  show ((nP (cI (bG ps)) (.str z)).map (·.isSome)).map (fun b=>Vl.im (.bool b))=_;rw [tX];cases dz ps z <;> rfl
 intro z os ho;induction ho with
 | @stop z h=>
  intro n acc hn ha;cases n with
  | zero=>exact absurd hn (Nat.not_lt_zero _)
  | succ n=>
   refine ⟨z,?_⟩;unfold dw;simp_arith [hin,h,Option.isSome_none,List.append_nil]
 | @step z y r h _ ih=>
  intro n acc hn ha;cases n with
  | zero=>exact absurd hn (Nat.not_lt_zero _)
  | succ n=>
   rw [List.length_cons] at hn ha;obtain ⟨z',e⟩:=ih n (acc++[z]) (by omega) (by rw [List.length_append];show acc.length + 1 + _ < _;omega);refine ⟨z',?_⟩;have g:(acc.length < 1000000)=True:=eq_true (by omega);have i:bH (.dict (cI (bG ps))) (.str z)=some (.im (.str y)):=by
    unfold bH Uo;simp only [tX,h,Option.map_some]
   simp only [List.map_append,List.map_cons,List.map_nil,List.append_assoc,List.cons_append,List.nil_append] at e ⊢;unfold dw;simp_arith [hin,h,Option.isSome_some,g,lF,jO,i,e]
theorem GP {C:Ce} {zs:List Str} {ps:List (Str×Str)} (hN:Names zs) (hP:bQ zs ps) (h8:ps.length≤8) (z:Str):
  dU [.im (.dict (cI (bG ps))),.im (.str z)] C=some (.ow (.list ((up ps z).map .str)),C):=by
 have hul:=Jl ps z;obtain ⟨z',e⟩:=R4 (C:=C) (CK hN hP z) Fv [] (by show _ < 100000;omega) (by show 0 + _ < 1000;omega);rw [List.map_nil,List.nil_append] at e;refine cD [some (.im (.dict (cI (bG ps)))),some (.im (.str z)),none] rfl rfl ?_ rfl rfl;simp_arith [lO,Ux,e]
theorem NK {C:Ce} {b L j:Nat} {m:Int} (h:Bl L C b (j + 101)) (h0:0≤m) (h1:m≤50):
  ∃(ns:List Int) (C':Ce),qm [.ce b,.im (.int m)] C=some (.ow (.list (ns.map .int)),C')∧ns.length=m.toNat∧(∀x∈ns,0≤x∧x≤2000)∧ns.Pairwise (· < ·)∧Bl L C' b j:=by
 refine hide fun GG gg=>?_
 obtain ⟨k0,C0,e0,a0,b0,hB0⟩:=aX (m:=3) (k:=j + 100) h (by decide) (by decide);obtain ⟨env',C',e,ns,nx,v4,he,hl,hr,hp,hx0,hx1,hB⟩:=iI (g:=gNm 4) (body:=nA) (its:=ju 0 m.toNat) (env:=[some (.ce b),some (.im (.int m)),some (.ow (.list [])),some (.im (.int k0)),none]) (C:=C0)
  (fun i env C1=>∃(ns:List Int) (nx:Int) (v4:Option Vl),env=[some (.ce b),some (.im (.int m)),some (.ow (.list (ns.map .int))),some (.im (.int nx)),v4]∧ns.length=i∧(∀x∈ns,0≤x∧x < nx)∧ns.Pairwise (· < ·)∧0≤nx∧nx≤2 + 3 * i∧Bl L C1 b (j + 2 * (50 - i)))
  ⟨[],k0,none,rfl,rfl,(fun _ m=>nomatch m),List.Pairwise.nil,a0,by omega,hB0⟩ (fun i d env C1 hd hI=>by
   obtain ⟨ns,nx,v4,rfl,hl,hr,hp,hx0,hx1,hB⟩:=hI;obtain ⟨rfl,hi⟩:=qg hd;refine hide fun GG gg=>?_
   rw [K6 j 2 (by omega:i < 50)] at hB;obtain ⟨k1,C2,e1,a1,b1,wC⟩:=aX (m:=2) hB (by decide) (by decide);obtain ⟨k2,C3,e2,a2,b2,hB2⟩:=aX (m:=3) wC (by decide) (by decide);obtain ⟨y,hy,y0,y2⟩:∃y,k1 * k2=y∧0≤y∧y≤2:=by
    have hk:k1=0∨k1=1:=by omega
    rcases hk with rfl | rfl
    ·exact ⟨0,by rw [Int.zero_mul],by decide,by decide⟩
    ·exact ⟨k2,by rw [Int.one_mul],a2,by omega⟩
   have lm:(ns.length < 1000000)=True:=eq_true (by omega);refine gg ⟨_,.nx,[some (.ce b),some (.im (.int m)),some (.ow (.list ((ns++[nx]).map .int))),some (.im (.int (nx + 1 + y))),some (.im (.int (0 + i)))],C3,rfl,?_,.inl rfl,ns++[nx],nx + 1 + y,_,rfl,by simp [hl],fun x hx=>?_,?_,by omega,by omega,hB2⟩
   ·simp_arith [nA,e1,e2,mul_eq (i:=k1) (j:=k2) (.inl (by omega)),hy,lF,jO,lm,List.map_append]
   ·rcases List.mem_append.mp hx with hx | hx
    ·have:=hr x hx;omega
    ·rw [List.mem_singleton.mp hx];omega
   ·rw [List.pairwise_append];refine ⟨hp,by simp,fun x hx z hz=>?_⟩;rw [List.mem_singleton.mp hz];exact (hr x hx).2)
 rw [tR] at hl hx1 hB;subst he;refine gg ⟨ns,C',cD [some (.ce b),some (.im (.int m)),none,none,none] rfl rfl ?_ rfl (h.eq hB),hl,fun x hx=>?_,hp,hB.mono (Nat.le_add_right _ _)⟩
 ·simp_arith [uY,e0,gG,vM,Gr (m:=m) (by omega) (by omega),e]
 ·have:=hr x hx;omega
theorem GQ {C:Ce}:∀(l q:List (Str×Str)),((q++l).map (·.1)).Nodup→(q++l).length≤8→vC (.many 2) gZ jm jn [] (l.map qN) (cI (bG q)) C=some (cI (bG (q++l)),C)
 | [],q,_,_=>by rw [List.append_nil];rfl
 | x::l,q,nd,h8=>by
  have ih:=GQ (C:=C) l (q++[x]) (by rw [List.append_assoc];exact nd) (by rw [List.append_assoc];exact h8);have hx:x.1∉(bG q).map (·.1):=by
   unfold bG;rw [List.map_map];show x.1∉q.map (·.1);rw [List.map_append,List.nodup_append] at nd;exact fun hm=>nd.2.2 _ hm _ List.mem_cons_self rfl
  have hl:(cI (bG q)).length < LIM:=by
   unfold cI bG;rw [List.length_append] at h8;rw [List.length_map,List.length_map];show _ < 1000000;omega
  rw [List.map_cons];unfold vC;rw [show V6 (.many 2) (qN x)=some [.str x.1,.str x.2] from rfl];show (if (cI (bG q)).length < LIM then vC (.many 2) gZ jm jn [] (l.map qN) (uM c7 (.inr x.1) (.str x.1) (.str x.2) (cI (bG q))) C else none)=_;rw [if_pos hl,Gn hx];have e:bG q++[(x.1,.str x.2)]=bG (q++[x]):=by unfold bG;rw [List.map_append];rfl
  rw [e,ih,List.append_assoc];rfl
theorem Vm {C:Ce} {hs:Option Vl} {q ps:List (Str×Str)} (hl:∀z,dz q z=dz ps z):∀{z:Str} {os:List Str},Over (dz ps) z os→∀(n:Nat) (acc:List Str),os.length < n→acc.length + os.length < 1000→
  ∃z',dw nR nU n [hs,some (.im (.str z)),some (.ow (.dict (cI (bG q)))),some (.ow (.list (acc.map .str)))] C=some (.nx,[hs,some (.im (.str z')),some (.ow (.dict (cI (bG q)))),some (.ow (.list ((acc++os).map .str)))],C):=by
 have hin:∀z,j8 (.str z) (.dict (cI (bG q)))=some (.im (.bool (dz ps z).isSome)):=fun z=>by
  show ((nP (cI (bG q)) (.str z)).map (·.isSome)).map (fun b=>Vl.im (.bool b))=_;rw [tX,hl];cases dz ps z <;> rfl
 intro z os ho;induction ho with
 | @stop z h=>
  intro n acc hn ha;cases n with
  | zero=>exact absurd hn (Nat.not_lt_zero _)
  | succ n=>
   refine ⟨z,?_⟩;unfold dw;simp_arith [hin,h,Option.isSome_none,List.append_nil]
 | @step z y r h _ ih=>
  intro n acc hn ha;cases n with
  | zero=>exact absurd hn (Nat.not_lt_zero _)
  | succ n=>
   rw [List.length_cons] at hn ha;obtain ⟨z',e⟩:=ih n (acc++[z]) (by omega) (by rw [List.length_append];show acc.length + 1 + _ < _;omega);refine ⟨z',?_⟩;have g:(acc.length < 1000000)=True:=eq_true (by omega);have i:bH (.dict (cI (bG q))) (.str z)=some (.im (.str y)):=by
    unfold bH Uo;simp only [tX,hl,h,Option.map_some]
   simp only [List.map_append,List.map_cons,List.map_nil,List.append_assoc,List.cons_append,List.nil_append] at e ⊢;unfold dw;simp_arith [hin,h,Option.isSome_some,g,lF,jO,i,e]
theorem zK {C:Ce} {zs:List Str} {ps:List (Str×Str)} {ht:fH} (hN:Names zs) (hP:bQ zs ps) (hG:dM zs ps ht) (z:Str):
  jz [.im (dB ht),.im (.str z)] C=some (.ow (.list ((up ps z).map .str)),C):=by
 have nd:=jd hN hP;have nd':(ht.ps.map (·.1)).Nodup:=(hG.parts.map (·.1)).nodup_iff.mpr nd;have hL:ht.ps.length≤8:=by rw [hG.parts.length_eq];exact hG.p8
 have t:=GQ (C:=C) ht.ps [] nd' hL;rw [show cI (bG [])=[] from rfl,List.nil_append] at t;have hul:=Jl ps z;have h8:=hG.p8;obtain ⟨z',e⟩:=Vm (C:=C) (hs:=some (.im (dB ht))) (Jk hG.parts nd) (CK hN hP z) Fv [] (by show _ < 100000;omega) (by show 0 + _ < 1000;omega);rw [List.map_nil,List.nil_append] at e;refine cD [some (.im (dB ht)),some (.im (.str z)),none,none] rfl rfl ?_ rfl rfl;simp_arith [m9,Z9,t,Gs,Ux,e]
theorem uf {C:Ce} {z a1 b1 p:Str} {n:Int}:dR [.im (.tuple [.str z,.int n,.str a1,.str b1]),.im (.str p)] C=some (.im (.bool (decide (p=a1∨p=b1))),C):=by
 have ct:jQ [PyData.str z,.int n,.str a1,.str b1] (some 2) (some 4)=[.str a1,.str b1]:=rfl;have i1:j8 (.str p) (.tuple [.str a1,.str b1])=some (.im (.bool (decide (p=a1∨p=b1)))):=by
  have:inB (.str p) (.tuple [.str a1,.str b1])=some (inD (.str p) ([a1,b1].map .str)):=if_pos (c:=(fL (.str p)&&[PyData.str a1,.str b1].all fL)=true) (e:=none) rfl;unfold j8;rw [this,tU];simp
 refine cD [some (.im (.tuple [.str z,.int n,.str a1,.str b1])),some (.im (.str p))] rfl rfl ?_ rfl rfl;simp_arith [uW,qe,m5,Hj,ct,i1]
def jZ (os:List Str) (n day:Int) (a1 b1:Str) (r:bz):Bool:=decide (r.2.2.2.1∈os)&&((decide (r.2.2.2.2.1≤day)&&decide (day≤r.2.2.2.2.2.1))&&(decide (n≤r.2.2.2.2.2.2)&&(!decide (r.2.1=a1∨r.2.1=b1)&&!decide (r.2.2.1=a1∨r.2.2.1=b1))))
def NP (r:bz):PyData:=.tuple [.int r.1,.str r.2.1,.str r.2.2.1]
abbrev cG (z a1 b1:Str) (n:Int):PyData:=.tuple [.str z,.int n,.str a1,.str b1]
theorem Vn {C:Ce} {zs:List Str} {ps:List (Str×Str)} {ht:fH} (hN:Names zs) (hP:bQ zs ps) (hG:dM zs ps ht) (z a1 b1:Str) (n day:Int):
  iJ [.im (dB ht),.im (cG z a1 b1 n),.im (.int day)] C=some (.ow (.list ((ht.leaves.filter (jZ (up ps z) n day a1 b1)).map NP)),C):=by
 have p:=zK (C:=C) hN hP hG z;have h16:=hG.K1;obtain ⟨l,lE⟩:∃l,l=ht.leaves.filter (jZ (up ps z) n day a1 b1):=⟨_,rfl⟩
 have ll:l.length≤16:=by rw [lE];exact Nat.le_trans (List.length_filter_le _ _) h16
 have t:gH (.many 7) nj nq [some (.im (.list ((up ps z).map .str))),some (.im (.int day)),some (.im (cG z a1 b1 n))] (ht.leaves.map bK) C=some (l.map NP,C):=by
  rw [lE];refine eZ (T:=.many 7) (ft:=nj) (fe:=nq) (fs:=[some (.im (.list ((up ps z).map .str))),some (.im (.int day)),some (.im (cG z a1 b1 n))]) (C:=C) bK (jZ (up ps z) n day a1 b1) NP (l:=ht.leaves) fun r _=>?_
  refine ⟨[.int r.1,.str r.2.1,.str r.2.2.1,.str r.2.2.2.1,.int r.2.2.2.2.1,.int r.2.2.2.2.2.1,.int r.2.2.2.2.2.2],rfl,?_,fun _=>⟨.im (NP r),[some (.im (.int r.1)),some (.im (.str r.2.1)),some (.im (.str r.2.2.1)),some (.im (.str r.2.2.2.1)),some (.im (.int r.2.2.2.2.1)),some (.im (.int r.2.2.2.2.2.1)),some (.im (.int r.2.2.2.2.2.2)),some (.im (.list ((up ps z).map .str))),some (.im (.int day)),some (.im (cG z a1 b1 n))],by simp_arith [mO,List.cons_append,List.nil_append];rfl,rfl⟩⟩;have c:=Wb uH uH (aG 4) (aG 8) (aG 5) (env:=[some (.im (.int r.1)),some (.im (.str r.2.1)),some (.im (.str r.2.2.1)),some (.im (.str r.2.2.2.1)),some (.im (.int r.2.2.2.2.1)),some (.im (.int r.2.2.2.2.2.1)),some (.im (.int r.2.2.2.2.2.2)),some (.im (.list ((up ps z).map .str))),some (.im (.int day)),some (.im (cG z a1 b1 n))]) (C:=C) (a:=decide (r.2.2.2.2.1≤day)) (b:=decide (day≤r.2.2.2.2.2.1)) rfl rfl rfl rfl rfl;have s1:=uf (C:=C) (z:=z) (a1:=a1) (b1:=b1) (n:=n) (p:=r.2.1);have s2:=uf (C:=C) (z:=z) (a1:=a1) (b1:=b1) (n:=n) (p:=r.2.2.1);simp_arith [mO,List.cons_append,List.nil_append,c,s1,s2];unfold jZ;cases decide (r.2.2.2.1∈up ps z) <;> cases decide (r.2.2.2.2.1≤day) <;> cases decide (day≤r.2.2.2.2.2.1) <;> cases decide (n≤r.2.2.2.2.2.2) <;> cases decide (r.2.1=a1∨r.2.1=b1) <;> rfl
 have q:(l.length≤1000000)=True:=eq_true (by omega);have nl:fY (l.map NP)=true:=by
  clear t lE ll q;induction l with
  | nil=>rfl
  | cons r l ih=>show (true&&fY (l.map NP))=true;rw [ih];rfl
 refine cD [some (.im (dB ht)),some (.im (cG z a1 b1 n)),some (.im (.int day)),none] rfl rfl ?_ rfl rfl;simp_arith [uX,p,t,q,nl];rw [lE]
theorem yX (p a1 b1:Str):j8 (.str p) (.tuple [.str a1,.str b1])=some (.im (.bool (decide (p=a1∨p=b1)))):=by
 have:inB (.str p) (.tuple [.str a1,.str b1])=some (inD (.str p) ([a1,b1].map .str)):=if_pos (c:=(fL (.str p)&&[PyData.str a1,.str b1].all fL)=true) (e:=none) rfl;unfold j8;rw [this,tU];simp
theorem j0 (o:Str) (zs:List Str):fW (.str o) (.list (zs.map .str))=some (.im (.bool (!decide (o∈zs)))):=by
 have:inB (.str o) (.list (zs.map .str))=some (inD (.str o) (zs.map .str)):=if_pos (by rw [uR];rfl);unfold fW;rw [this,tU,Option.map_some]
theorem GR:∀ps:List (Str×Str),Rp (cI (bG ps))=some (ps.map fun p=>(.inr p.1,.inr p.2))
 | []=>rfl
 | p::ps=>by
  show ((some (Sum.inr p.1):Option Key).bind fun k=>(some (Sum.inr p.2):Option Key).bind fun v=>(Rp (cI (bG ps))).map fun t=>(k,v)::t)=_;rw [GR ps];rfl
theorem GX (ps:List (Str×Str)) (h0:0 < ps.length) (h8:ps.length≤8):∃ps':List (Str×Str),ps'.Perm ps∧Jo (cI (bG ps))=some (ps'.map qN):=by
 have em:(cI (bG ps)).map (fun p=>PyData.tuple [p.1,p.2])=ps.map qN:=by
  unfold cI bG;rw [List.map_map,List.map_map];rfl
 obtain ⟨ps',p1,p2⟩:=Cz (Nh (ds:=ps.map qN) fun d hd=>by obtain ⟨p,_,rfl⟩:=List.mem_map.mp hd;rfl);refine ⟨ps',p1,?_⟩;unfold Jo;rw [GR,em];cases ps with
 | nil=>cases h0
 | cons p r=>
  rw [Option.bind_some,List.map_cons,List.head?_cons,Option.bind_some,if_pos,p2];refine ⟨by rw [List.length_cons,List.length_map];rw [List.length_cons] at h8;omega,fun q hq=>?_⟩;rw [←List.map_cons (f:=fun p:Str×Str=>((Sum.inr p.1,Sum.inr p.2):Key×Key))] at hq;obtain ⟨x,_,rfl⟩:=List.mem_map.mp hq;exact ⟨rfl,rfl⟩
theorem GZ {C:Ce} {ps:List (Str×Str)} (h0:0 < ps.length) (h8:ps.length≤8) (lv:List bz):∃ps':List (Str×Str),ps'.Perm ps∧lq [.im (.dict (cI (bG ps))),.im (.list (lv.map bK))] C=some (.im (dB ⟨ps',[],lv,[]⟩),C):=by
 obtain ⟨ps',p1,e⟩:=GX ps h0 h8;refine ⟨ps',p1,cD [some (.im (.dict (cI (bG ps)))),some (.im (.list (lv.map bK)))] rfl rfl ?_ rfl rfl⟩;simp_arith [pN,CV,Rq,e,tK];rfl
def stL (st:List (Str×Int)):List (Str×PyData):=st.map fun x=>(x.1,.int x.2)
abbrev wD (w:Int×Str×Str):PyData:=.tuple [.int w.1,.str w.2.1,.str w.2.2]
theorem Du (st:List (Str×Int)) (z:Str):nP (cI (stL st)) (.str z)=some ((oA st z).map .int):=by
 rw [Af];unfold stL oA;rw [List.find?_map,Option.map_map,Option.map_map];rfl
theorem Lg (st:List (Str×Int)) (z:Str):((oA st z).map PyData.int).isSome=decide (z∈st.map (·.1)):=by
 by_cases h:z∈st.map (·.1)
 ·cases e:oA st z with
  | none=>exact absurd h (dO.mp e)
  | some d=>rw [decide_eq_true h];rfl
 ·rw [dO.mpr h,decide_eq_false h];rfl
theorem We (st:List (Str×Int)) (z:Str):j8 (.str z) (.dict (cI (stL st)))=some (.im (.bool (decide (z∈st.map (·.1))))):=by
 show ((nP (cI (stL st)) (.str z)).map (·.isSome)).map (fun b=>Vl.im (.bool b))=_;rw [Du,Option.map_some,Lg];rfl
theorem yZ (st:List (Str×Int)) (z:Str):fW (.str z) (.dict (cI (stL st)))=some (.im (.bool (!decide (z∈st.map (·.1))))):=by
 show ((nP (cI (stL st)) (.str z)).map (·.isSome)).map (fun b=>Vl.im (.bool (!b)))=_;rw [Du,Option.map_some,Lg];rfl
theorem Wf {st:List (Str×Int)} {z:Str} {d:Int} (h:oA st z=some d):bH (.dict (cI (stL st))) (.str z)=some (.im (.int d)):=by
 unfold bH Uo;simp only [Du,h,Option.map_some]
theorem Lh {C:Ce} {v0 v1 nw:Option Vl} {k:Int}:∀(new:List Str) (st:List (Str×Int)) (v5:Option Vl),(st.map (·.1)++new).Nodup→st.length + new.length≤1000→
  ∃v5',eO (gNm 5) qR (new.map .str) [v0,v1,some (.ow (.dict (cI (stL st)))),nw,some (.im (.int k)),v5] C=some (.nx,[v0,v1,some (.ow (.dict (cI (stL (st++new.map fun g=>(g,k)))))),nw,some (.im (.int k)),v5'],C)
 | [],st,v5,_,_=>⟨v5,by rw [List.map_nil,List.map_nil,List.append_nil];rfl⟩
 | g::new,st,v5,nd,hl=>by
  rw [List.length_cons] at hl;obtain ⟨v5',e⟩:=Lh (C:=C) (v0:=v0) (v1:=v1) (nw:=nw) (k:=k) new (st++[(g,k)]) (some (.im (.str g))) (by rw [List.map_append,List.append_assoc];exact nd) (by rw [List.length_append];show st.length + 1 + _≤_;omega);refine ⟨v5',?_⟩;have hn:g∉(stL st).map (·.1):=by
   unfold stL;rw [List.map_map];exact fun hm=>(List.nodup_append.mp nd).2.2 _ hm _ List.mem_cons_self rfl
  have pu:putD (cI (stL st)) (.str g) (.int k)=some (cI (stL (st++[(g,k)]))):=by
   rw [Gp hn];unfold stL;rw [List.map_append];rfl
  have q:((cI (stL st)).length < 1000000)=True:=eq_true (by unfold cI stL;rw [List.length_map,List.length_map];omega);rw [List.append_assoc] at e;rw [List.map_cons];unfold eO;simp_arith [zB,tD,pu,q];exact e
theorem za {C:Ce} {ws:List (Int×Str×Str)} {s:Str} (hl:ws.length≤60):∀(n:Nat) (st:List (Str×Int)) (new:List Str) (k:Nat) (nv:Vl) (v5:Option Vl),(nv=.ow (.list (new.map .str))∨nv=.im (.list (new.map .str)))→Rv ws s st new k→(new=[]→0 < n)→(new≠[]→ws.length + 2 - st.length < n)→
  ∃(st':List (Str×Int)) (e':En),dw qW qX n [some (.im (.list (ws.map wD))),some (.im (.str s)),some (.ow (.dict (cI (stL st)))),some nv,some (.im (.int k)),v5] C=some (.nx,e',C)∧e'[2]?=some (some (.ow (.dict (cI (stL st')))))∧Nv ws s st'
 | 0,st,new,k,nv,v5,hv,B,h0,h1=>by
  by_cases h:new=[]
  ·exact absurd (h0 h) (Nat.lt_irrefl _)
  ·exact absurd (h1 h) (Nat.not_lt_zero _)
 | n + 1,st,new,k,nv,v5,hv,B,h0,h1=>by
  by_cases hnew:new=[]
  ·subst hnew;refine ⟨st,[some (.im (.list (ws.map wD))),some (.im (.str s)),some (.ow (.dict (cI (stL st)))),some nv,some (.im (.int k)),v5],?_,rfl,B.done⟩;unfold dw;rcases hv with rfl | rfl <;> simp_arith [] <;> rfl
  have h1:=h1 hnew;have ht:(new.map PyData.str).isEmpty=false:=by cases new with | nil=>exact absurd rfl hnew | cons _ _=>rfl
  have c:=eZ (T:=.many 3) (ft:=qT) (fe:=qU) (fs:=[some (.im (.list (new.map .str))),some (.im (.dict (cI (stL st))))]) (C:=C) wD (fun w=>decide (w.2.2∈new)&&!decide (w.2.1∈st.map (·.1))) (fun w=>.str w.2.1) (l:=ws) fun w _=>by
   refine ⟨[.int w.1,.str w.2.1,.str w.2.2],rfl,?_,fun _=>⟨.im (.str w.2.1),_,by simp_arith [mO,List.cons_append,List.nil_append];rfl,rfl⟩⟩;simp_arith [mO,List.cons_append,List.nil_append,yZ];cases decide (w.2.2∈new) <;> rfl
  obtain ⟨gs,gsE⟩:∃gs,gs=(ws.filter fun w=>decide (w.2.2∈new)&&!decide (w.2.1∈st.map (·.1))).map (·.2.1):=⟨_,rfl⟩
  have c2:(ws.filter fun w=>decide (w.2.2∈new)&&!decide (w.2.1∈st.map (·.1))).map (fun w=>PyData.str w.2.1)=gs.map .str:=by rw [gsE,List.map_map];rfl
  rw [c2] at c;have gl:gs.length≤60:=by rw [gsE,List.length_map];exact Nat.le_trans (List.length_filter_le _ _) hl
  have sS:tO (gs.map .str)=some ((ir strLt (dedup gs)).map .str):=by
   unfold tO;rw [if_pos (by rw [List.length_map];omega),jT]
  obtain ⟨ns,nsE⟩:∃ns,ns=ir strLt (dedup gs):=⟨_,rfl⟩
  rw [←nsE] at sS;have hm:∀g,g∈ns ↔ ∃w∈ws,w.2.2∈new∧w.2.1∉st.map (·.1)∧w.2.1=g:=fun g=>by
   rw [nsE,(dI _).mem_iff,MP,gsE,List.mem_map];constructor
   ·rintro ⟨w,h1,h2⟩;obtain ⟨h1,h3⟩:=List.mem_filter.mp h1;rw [Bool.and_eq_true,decide_eq_true_eq,Bool.not_eq_true',decide_eq_false_iff_not] at h3;exact ⟨w,h1,h3.1,h3.2,h2⟩
   ·rintro ⟨w,h1,h2,h3,h4⟩;exact ⟨w,List.mem_filter.mpr ⟨h1,by rw [decide_eq_true h2,decide_eq_false h3];rfl⟩,h4⟩
  have hn:ns.Nodup:=by rw [nsE];exact (dI _).nodup_iff.mpr (Er _)
  have B2:=B.step hn hm;have f1:=B.few;have f2:=B2.few;have nd:=B2.nd;rw [List.map_append,List.map_map,show ((fun x:Str×Int=>x.1) ∘ fun g=>(g,(k:Int) + 1))=id from rfl,List.map_id] at nd;rw [List.length_append,List.length_map] at f2;obtain ⟨v5',e1⟩:=Lh (C:=C) (v0:=some (.im (.list (ws.map wD)))) (v1:=some (.im (.str s))) (nw:=some (.im (.list (ns.map .str)))) (k:=(k:Int) + 1) ns st v5 nd (by omega);obtain ⟨st',e',e2,e3,e4⟩:=za (C:=C) hl n (st++ns.map fun g=>(g,(k:Int) + 1)) ns (k + 1) (.im (.list (ns.map .str))) v5' (.inr rfl) B2 (fun z=>by omega) (fun z=>by
   rw [List.length_append,List.length_map];have:=List.length_pos_iff.mpr z;omega)
  refine ⟨st',e',?_,e3,e4⟩;unfold dw;rcases hv with rfl | rfl <;> simp_arith [ht,Uw,fSC,↓c,sS,gG,e1] <;> exact e2
theorem zb {C:Ce} {ws:List (Int×Str×Str)} {s:Str} (hl:ws.length≤60):∃st:List (Str×Int),iK [.im (.list (ws.map wD)),.im (.str s)] C=some (.ow (.dict (cI (stL st))),C)∧Nv ws s st:=by
 obtain ⟨st,e',e1,e2,e3⟩:=za (C:=C) hl Fv [(s,0)] [s] 0 (.ow (.list [.str s])) none (.inl rfl) (Rv.init ws s) (fun z=>nomatch z) (fun _=>by show _ + 2 - 1 < 100000;omega);rw [show (((0:Nat):Nat):Int)=0 from rfl] at e1;refine ⟨st,cD [some (.im (.list (ws.map wD))),some (.im (.str s)),none,none,none,none] rfl rfl ?_ rfl rfl,e3⟩;simp_arith [rK,K8,Ux,c7];rw [show [(PyData.str s,PyData.int 0)]=cI (stL [(s,0)]) from rfl];simp only [e1];simp_arith [e2]
def ug (st:List (Str×Int)) (d:Int) (p:Str) (w:Int×Str×Str):Bool:=decide (w.2.1=p)&&(decide (w.2.2∈st.map (·.1))&&(oA st w.2.2).any fun e=>decide (e < d))
theorem u5 {st:List (Str×Int)} {d:Int} {p:Str} {w:Int×Str×Str}:ug st d p w=true ↔ w.2.1=p∧∃e,oA st w.2.2=some e∧e < d:=by
 unfold ug;rw [Bool.and_eq_true,Bool.and_eq_true,decide_eq_true_eq,decide_eq_true_eq];refine and_congr_right fun _=>⟨fun h=>?_,fun ⟨e,h1,h2⟩=>⟨?_,by rw [h1];exact decide_eq_true h2⟩⟩
 ·cases e:oA st w.2.2 with
  | none=>exact absurd h.1 (dO.mp e)
  | some x=>
   have:=h.2;rw [e] at this;exact ⟨x,rfl,of_decide_eq_true this⟩
 ·apply Classical.byContradiction;intro n;rw [dO.mpr n] at h1;cases h1
theorem Li (bt:Nat→Nat→Bool) (val:Nat→Int) (h1:∀i j,bt i j=true→val i≤val j) (h2:∀i j,bt i j=false→val j≤val i):∀k,PySem.argBest bt k≤k∧∀i,i≤k→val (PySem.argBest bt k)≤val i
 | 0=>⟨Nat.le_refl _,fun i hi=>by rw [Nat.le_zero.mp hi];exact Int.le_refl _⟩
 | k + 1=>by
  obtain ⟨a,b⟩:=Li bt val h1 h2 k;unfold PySem.argBest;cases e:bt (k + 1) (PySem.argBest bt k) with
  | true=>
   rw [if_pos rfl];refine ⟨Nat.le_refl _,fun i hi=>?_⟩;rcases Nat.lt_or_eq_of_le hi with hi | rfl
   ·exact Int.le_trans (h1 _ _ e) (b i (Nat.le_of_lt_succ hi))
   ·exact Int.le_refl _
  | false=>
   rw [if_neg Bool.false_ne_true];refine ⟨Nat.le_succ_of_le a,fun i hi=>?_⟩;rcases Nat.lt_or_eq_of_le hi with hi | rfl
   ·exact b i (Nat.le_of_lt_succ hi)
   ·exact h2 _ _ e
theorem NQ (cs:List (Int×Str)) (h:cs≠[]):∃c∈cs,CW [.list (cs.map fun c=>.tuple [.int c.1,.str c.2])]=some (.im (.tuple [.int c.1,.str c.2]))∧∀c'∈cs,c.1≤c'.1:=by
 obtain ⟨c0,hc0⟩:∃c0,cs.head?=some c0:=by
  cases cs with
  | nil=>exact absurd rfl h
  | cons c _=>exact ⟨c,rfl⟩
 have ek:(cs.map fun c=>PyData.tuple [.int c.1,.str c.2]).map vA=cs.map fun c=>[Sum.inl c.1,Sum.inr c.2]:=by
  rw [List.map_map];rfl
 have hd:(cs.map fun c=>([Sum.inl c.1,Sum.inr c.2]:List Key)).headD []=[Sum.inl c0.1,Sum.inr c0.2]:=by
  cases cs with
  | nil=>cases hc0
  | cons c _=>cases hc0;rfl
 have gt:∀i,(cs.map fun c=>([Sum.inl c.1,Sum.inr c.2]:List Key)).getD i [Sum.inl c0.1,Sum.inr c0.2]=[Sum.inl (cs.getD i c0).1,Sum.inr (cs.getD i c0).2]:=fun i=>by
  rw [List.getD_eq_getElem?_getD,List.getD_eq_getElem?_getD,List.getElem?_map];cases cs[i]? <;> rfl
 obtain ⟨b1,b2⟩:=Li (fun i j=>iC ((cs.map fun c=>([Sum.inl c.1,Sum.inr c.2]:List Key)).getD i [Sum.inl c0.1,Sum.inr c0.2]) ((cs.map fun c=>([Sum.inl c.1,Sum.inr c.2]:List Key)).getD j [Sum.inl c0.1,Sum.inr c0.2])) (fun i=>(cs.getD i c0).1) (fun i j e=>by
   simp only [gt,iC] at e;split at e
   ·rename_i z;have:=Sum.inl.inj z;omega
   ·exact Int.le_of_lt (of_decide_eq_true e)) (fun i j e=>by
   simp only [gt,iC] at e;split at e
   ·rename_i z;have:=Sum.inl.inj z;omega
   ·have:=of_decide_eq_false e;omega) (cs.length - 1)
 have pos:0 < cs.length:=List.length_pos_iff.mpr h;obtain ⟨k,hk⟩:∃k,k=Gx (cs.map fun c=>([Sum.inl c.1,Sum.inr c.2]:List Key)):=⟨_,rfl⟩
 have hk':=hk;unfold Gx at hk';rw [hd,List.length_map] at hk';rw [←hk'] at b1 b2;have lt:k < cs.length:=by omega
 refine ⟨cs[k],List.getElem_mem lt,?_,fun c' hc'=>?_⟩
 ·show Jq (cs.map fun c=>.tuple [.int c.1,.str c.2])=_;unfold Jq;rw [List.head?_map,hc0,ek,←hk,List.getElem?_map,List.getElem?_eq_getElem lt];refine if_pos fun d hd=>?_
  obtain ⟨c,_,rfl⟩:=List.mem_map.mp hd;rfl
 ·obtain ⟨i,hi,rfl⟩:=List.getElem_of_mem hc';have:=b2 i (by omega);rw [List.getD_eq_getElem?_getD,List.getD_eq_getElem?_getD,List.getElem?_eq_getElem lt,List.getElem?_eq_getElem hi] at this;exact this
theorem NZ {C:Ce} {ws:List (Int×Str×Str)} {st:List (Str×Int)} {p:Str} {d:Int} (hl:ws.length≤60) (hp:oA st p=some d) (hne:∃w∈ws,ug st d p w=true):
  ∃(n:Int) (t:Str),jA [.im (.list (ws.map wD)),.im (.dict (cI (stL st))),.im (.str p)] C=some (.im (.tuple [.int n,.str t]),C)∧(n,p,t)∈ws∧(∃e,oA st t=some e∧e < d)∧∀n' q' e,(n',p,q')∈ws→oA st q'=some e→e < d→n≤n':=by
 have c:=eZ (T:=.many 3) (ft:=nW) (fe:=nY) (fs:=[some (.im (.str p)),some (.im (.dict (cI (stL st))))]) (C:=C) wD (ug st d p) (fun w=>.tuple [.int w.1,.str w.2.2]) (l:=ws) fun w _=>by
  refine ⟨[.int w.1,.str w.2.1,.str w.2.2],rfl,?_,fun _=>⟨.im (.tuple [.int w.1,.str w.2.2]),_,by simp_arith [mO,List.cons_append,List.nil_append];rfl,rfl⟩⟩;have ip:=Wf hp;unfold ug;cases h1:decide (w.2.1=p) with
  | false=>simp_arith [mO,List.cons_append,List.nil_append,h1]
  | true=>
   cases e:oA st w.2.2 with
   | none=>
    have h2:=decide_eq_false (dO.mp e);simp_arith [mO,List.cons_append,List.nil_append,h1,We,h2]
   | some x=>
    have h2:decide (w.2.2∈st.map (·.1))=true:=by rw [←Lg,e];rfl
    have iw:=Wf e;simp_arith [mO,List.cons_append,List.nil_append,h1,We,h2,ip,iw,Option.any_some]
 obtain ⟨cs,csE⟩:∃cs:List (Int×Str),cs=(ws.filter (ug st d p)).map fun w=>(w.1,w.2.2):=⟨_,rfl⟩
 have c2:(ws.filter (ug st d p)).map (fun w=>PyData.tuple [.int w.1,.str w.2.2])=cs.map fun c=>.tuple [.int c.1,.str c.2]:=by rw [csE,List.map_map];rfl
 rw [c2] at c;have cl:(cs.length≤1000000)=True:=eq_true (by rw [csE,List.length_map];have:=List.length_filter_le (ug st d p) ws;omega);have mem:∀n t,(n,t)∈cs ↔ (n,p,t)∈ws∧∃e,oA st t=some e∧e < d:=fun n t=>by
  rw [csE,List.mem_map];constructor
  ·rintro ⟨w,hw,e⟩;cases e;obtain ⟨h1,h2⟩:=List.mem_filter.mp hw;obtain ⟨h3,h4⟩:=u5.mp h2;rw [←h3];exact ⟨h1,h4⟩
  ·rintro ⟨h1,h2⟩;exact ⟨(n,p,t),List.mem_filter.mpr ⟨h1,u5.mpr ⟨rfl,h2⟩⟩,rfl⟩
 have ne:cs≠[]:=fun z=>by
  obtain ⟨w,hw,h⟩:=hne;have:(w.1,w.2.2)∈cs:=by rw [csE];exact List.mem_map.mpr ⟨w,List.mem_filter.mpr ⟨hw,h⟩,rfl⟩
  rw [z] at this;cases this
 have nl:fY (cs.map fun c=>PyData.tuple [.int c.1,.str c.2])=true:=by
  clear c c2 csE cl mem ne;induction cs with
  | nil=>rfl
  | cons r l ih=>show (true&&fY (l.map _))=true;rw [ih];rfl
 obtain ⟨⟨n,t⟩,m,e,hmin⟩:=NQ cs ne;obtain ⟨m1,m2⟩:=(mem n t).mp m;refine ⟨n,t,cD [some (.im (.list (ws.map wD))),some (.im (.dict (cI (stL st)))),some (.im (.str p))] rfl rfl ?_ rfl rfl,m1,m2,fun n' q' e' h1 h2 h3=>hmin (n',q') ((mem n' q').mpr ⟨h1,e',h2,h3⟩)⟩;simp_arith [nu,c,cl,nl,e]
theorem R7 {C:Ce} {ws:List (Int×Str×Str)} {s:Str} {st:List (Str×Int)} (hl:ws.length≤60) (hU:∀w∈ws,∀w'∈ws,w.1=w'.1→w=w') (B:Nv ws s st):∀(m:Nat) (p:Str) (d:Int),oA st p=some d→d≤m→∀(n:Nat) (acc:List Int) (v5:Option Vl),m < n→acc.length + m≤100000→
  ∃(r:List Int) (e':En),dw pI pJ n [some (.im (.list (ws.map wD))),some (.im (.str p)),some (.im (.str s)),some (.ow (.dict (cI (stL st)))),some (.ow (.list (acc.map .int))),v5] C=some (.nx,e',C)∧e'[4]?=some (some (.ow (.list ((acc++r).map .int))))∧kO ws p s r:=by
 intro m;induction m with
 | zero=>
  intro p d hp hd n acc v5 hn ha;have:p=s:=by
   obtain ⟨r,h1,h2⟩:=B.sound p d hp;cases h1 with
   | nil=>rfl
   | cons _ _=>rw [List.length_cons] at h2;omega
  subst this;cases n with
  | zero=>exact absurd hn (Nat.lt_irrefl _)
  | succ n=>
   refine ⟨[],[some (.im (.list (ws.map wD))),some (.im (.str p)),some (.im (.str p)),some (.ow (.dict (cI (stL st)))),some (.ow (.list (acc.map .int))),v5],?_,by rw [List.append_nil];rfl,kO.self ws p⟩;unfold dw;simp_arith [ne_strs]
 | succ m ih=>
  intro p d hp hd n acc v5 hn ha;cases n with
  | zero=>exact absurd hn (Nat.not_lt_zero _)
  | succ n=>
   by_cases hs:p=s
   ·subst hs;refine ⟨[],[some (.im (.list (ws.map wD))),some (.im (.str p)),some (.im (.str p)),some (.ow (.dict (cI (stL st)))),some (.ow (.list (acc.map .int))),v5],?_,by rw [List.append_nil];rfl,kO.self ws p⟩;unfold dw;simp_arith [ne_strs]
   ·have hne:∃w∈ws,ug st d p w=true:=by
     obtain ⟨r,h1,h2⟩:=B.sound p d hp;cases h1 with
     | nil=>exact absurd rfl hs
     | cons hw hr=>
      rename_i n q r;obtain ⟨e,h3,h4⟩:=B.whole q r hr;rw [List.length_cons] at h2;exact ⟨_,hw,u5.mpr ⟨rfl,e,h3,by omega⟩⟩
    obtain ⟨n1,t,e1,m1,⟨e,m2,m3⟩,hmin⟩:=NZ (C:=C) hl hp hne;obtain ⟨r,e',e2,e3,e4⟩:=ih t e m2 (by omega) n (acc++[n1]) (some (.im (.int n1))) (by omega) (by rw [List.length_append];show acc.length + 1 + _≤_;omega);have R:=kO.go hU B hp m1 ⟨e,m2,m3⟩ hmin e4;rw [List.append_assoc] at e3;refine ⟨n1::r,e',?_,e3,R⟩;have g:(acc.length < 1000000)=True:=eq_true (by omega);have q:(p=s)=False:=eq_false hs;rw [List.map_append] at e2;unfold dw;have rp:∀e e',rst (.im (.tuple [.int n1,.str t])) e e'=e:=fun _ _=>rfl
    simp_arith [ne_strs,q,e1,lF,jO,g,rp];exact e2
def R8:Option (List Int)→Vl
 | none=>.im .none
 | some r=>.ow (.list (r.map .int))
def G3 (ws:List (Int×Str×Str)) (h s:Str):Option (List Int)→Prop
 | none=>∀r,¬yE ws h r s
 | some r=>kO ws h s r
theorem R9 {C:Ce} {ws:List (Int×Str×Str)} {h s:Str} (hl:ws.length≤60) (hU:∀w∈ws,∀w'∈ws,w.1=w'.1→w=w'):∃o,lg [.im (.list (ws.map wD)),.im (.str h),.im (.str s)] C=some (R8 o,C)∧G3 ws h s o:=by
 obtain ⟨st,e1,B⟩:=zb (C:=C) (s:=s) hl;cases e:oA st h with
 | none=>
  have hn:=dO.mp e;refine ⟨none,cD [some (.im (.list (ws.map wD))),some (.im (.str h)),some (.im (.str s)),none,none,none] rfl rfl ?_ rfl rfl,fun r p=>hn ((B.iff h).mpr ⟨r,p⟩)⟩;have q:=decide_eq_false hn;simp_arith [kZ,e1,yZ,q];rfl
 | some d=>
  obtain ⟨r0,h1,h2⟩:=B.sound h d e;have q:decide (h∈st.map (·.1))=true:=by rw [←Lg,e];rfl
  obtain ⟨r,e',e2,e3,e4⟩:=R7 (C:=C) hl hU B d.toNat h d e (by omega) Fv [] none (by have:=B.few h d e;show _ < 100000;omega) (by have:=B.few h d e;show 0 + _≤_;omega);refine ⟨some r,cD [some (.im (.list (ws.map wD))),some (.im (.str h)),some (.im (.str s)),none,none,none] rfl rfl ?_ rfl rfl,e4⟩;rw [List.map_nil] at e2;rw [List.nil_append] at e3;simp_arith [kZ,e1,yZ,q,Ux,e2,e3];rfl
def JC (r:bz):Int×Str×Str:=(r.1,r.2.1,r.2.2.1)
theorem Lj:∀{l:List bz},(l.map (·.1)).Nodup→∀r∈l,∀r'∈l,r.1=r'.1→r=r'
 | [],_,_,h,_,_,_=>nomatch h
 | a::l,hp,r,h,r',h',e=>by
  rw [List.map_cons,List.nodup_cons] at hp;rcases List.mem_cons.mp h with h1 | h1 <;> rcases List.mem_cons.mp h' with h2 | h2
  ·rw [h1,h2]
  ·exact absurd (List.mem_map.mpr ⟨r',h2,by rw [←h1,e]⟩) hp.1
  ·exact absurd (List.mem_map.mpr ⟨r,h1,by rw [←h2,e]⟩) hp.1
  ·exact Lj hp.2 r h1 r' h2 e
theorem G3.unique {ws:List (Int×Str×Str)} {h s:Str}:∀{o o':Option (List Int)},G3 ws h s o→G3 ws h s o'→o=o'
 | none,none,_,_=>rfl
 | none,some r,a,b=>absurd b.1 (a r)
 | some r,none,a,b=>absurd a.1 (b r)
 | some r,some r',a,b=>congrArg some (kO.unique a b)
def gY (ht:fH) (os:List Str) (n day:Int) (a1 b1:Str):List (Int×Str×Str):=(ht.leaves.filter (jZ os n day a1 b1)).map JC
theorem zc {zs:List Str} {ps:List (Str×Str)} {ht:fH} (hG:dM zs ps ht) (os:List Str) (n day:Int) (a1 b1:Str):(gY ht os n day a1 b1).length≤60:=by
 unfold gY;rw [List.length_map];have:=List.length_filter_le (jZ os n day a1 b1) ht.leaves;have:=hG.K1;omega
theorem G4 {zs:List Str} {ps:List (Str×Str)} {ht:fH} (hG:dM zs ps ht) (os:List Str) (n day:Int) (a1 b1:Str):∀w∈gY ht os n day a1 b1,∀w'∈gY ht os n day a1 b1,w.1=w'.1→w=w':=fun w h w' h' e=>by
 obtain ⟨r,m,rfl⟩:=List.mem_map.mp h;obtain ⟨r',m',rfl⟩:=List.mem_map.mp h';rw [Lj hG.lnd r (List.mem_filter.mp m).1 r' (List.mem_filter.mp m').1 e]
theorem Sd {C:Ce} {zs:List Str} {ps:List (Str×Str)} {ht:fH} (hN:Names zs) (hP:bQ zs ps) (hG:dM zs ps ht) (z a1 b1:Str) (n day:Int):
  iJ [.im (dB ht),.im (cG z a1 b1 n),.im (.int day)] C=some (.ow (.list ((gY ht (up ps z) n day a1 b1).map wD)),C):=by
 rw [Vn hN hP hG];unfold gY;rw [List.map_map];rfl
theorem Sg {C:Ce} {zs:List Str} {ps:List (Str×Str)} {ht:fH} (hN:Names zs) (hP:bQ zs ps) (hG:dM zs ps ht) (z a1 b1:Str) (n day:Int) (h s:Str):
  ∃o,ue [.im (dB ht),.im (cG z a1 b1 n),.im (.str h),.im (.str s),.im (.int day)] C=some (R8 o,C)∧(((h=a1∨h=b1)∨(s=a1∨s=b1))→o=none)∧(¬((h=a1∨h=b1)∨(s=a1∨s=b1))→G3 (gY ht (up ps z) n day a1 b1) h s o):=by
 have s1:=uf (C:=C) (z:=z) (a1:=a1) (b1:=b1) (n:=n) (p:=h);have s2:=uf (C:=C) (z:=z) (a1:=a1) (b1:=b1) (n:=n) (p:=s);have w:=Sd (C:=C) hN hP hG z a1 b1 n day;obtain ⟨o,e,ho⟩:=R9 (C:=C) (h:=h) (s:=s) (zc hG (up ps z) n day a1 b1) (G4 hG (up ps z) n day a1 b1);have ok:z9 C.length (R8 o)=true:=by cases o <;> rfl
 by_cases h1:h=a1∨h=b1
 ·refine ⟨none,cD [some (.im (dB ht)),some (.im (cG z a1 b1 n)),some (.im (.str h)),some (.im (.str s)),some (.im (.int day))] rfl rfl ?_ rfl rfl,fun _=>rfl,fun z=>absurd (.inl h1) z⟩;rw [decide_eq_true h1] at s1;simp_arith [pK,s1];rfl
 ·rw [decide_eq_false h1] at s1;by_cases h2:s=a1∨s=b1
  ·refine ⟨none,cD [some (.im (dB ht)),some (.im (cG z a1 b1 n)),some (.im (.str h)),some (.im (.str s)),some (.im (.int day))] rfl rfl ?_ rfl rfl,fun _=>rfl,fun z=>absurd (.inr h2) z⟩;rw [decide_eq_true h2] at s2;simp_arith [pK,s1,s2];rfl
  ·rw [decide_eq_false h2] at s2;refine ⟨o,cD [some (.im (dB ht)),some (.im (cG z a1 b1 n)),some (.im (.str h)),some (.im (.str s)),some (.im (.int day))] rfl rfl ?_ ok rfl,fun z=>absurd z fun z=>z.elim h1 h2,fun _=>ho⟩;simp_arith [pK,s1,s2,w,e]
theorem zf {α:Type} {f:α→PyData} (h:∀a,zx (f a)=true):∀l:List α,fY (l.map f)=true
 | []=>rfl
 | a::l=>by
  show (zx (f a)&&fY (l.map f))=true;rw [h a,zf h l];rfl
theorem Vo (h:fH) (e f:En):rst (.im (dB h)) e f=e:=by
 refine if_pos ?_;show (fY (h.ps.map qN)&&(fY (h.vD.map qM)&&(fY (h.leaves.map bK)&&(fY (h.rules.map Gj)&&true))))=true;rw [zf (fun _=>rfl),zf (fun _=>rfl),zf (fun _=>rfl),Ah];rfl
theorem u6 (ps:List (Str×Str)):gJ [.dict (cI (bG ps))]=some (.im (.int ps.length)):=by
 have:QW (.dict (cI (bG ps)))=some ps.length:=by
  show (if (cM c7 (cI (bG ps))).isSome then some (cI (bG ps)).length else none)=_;rw [tV];unfold cI bG;rw [List.length_map,List.length_map];rfl
 unfold gJ;simp only [this];rfl
theorem JD {zs:List Str} {m:Nat} {ps:List (Str×Str)} (h:bQ (zs.take m) ps):bQ zs ps:=fun i x e=>by
 have up:∀j z,(zs.take m)[j]?=some z→zs[j]?=some z:=fun j z e=>by
  rw [List.getElem?_take] at e;split at e
  ·exact e
  ·cases e
 obtain ⟨h1,h2⟩:=h i x e;exact ⟨up i _ h1,h2.imp_right fun ⟨j,a,b⟩=>⟨j,a,up j _ b⟩⟩
theorem Sh {f:Str→Option Str} {z:Str} {os:List Str} (h:Over f z os):∀y∈os,∃w,f y=some w:=by
 induction h with
 | stop _=>exact fun y hy=>absurd hy List.not_mem_nil
 | step h _ ih=>
  intro y hy;rcases List.mem_cons.mp hy with rfl | hy
  ·exact ⟨_,h⟩
  ·exact ih y hy
theorem Sq {zs:List Str} {ps:List (Str×Str)} (hN:Names zs) (hP:bQ zs ps) {z y:Str} (h:y∈up ps z):y∈ps.map (·.1):=by
 obtain ⟨w,e⟩:=Sh (CK hN hP z) y h;exact List.mem_map.mpr ⟨(y,w),(dJ (jd hN hP)).mp e,rfl⟩
theorem Yt {zs:List Str} {ps ps':List (Str×Str)} {lv:List bz} (p1:ps'.Perm ps) (p8:ps.length≤8) (K1:lv.length≤16) (hl:∀r∈lv,qi zs (ps.map (·.1)) r) (up:(lv.map (·.1)).Nodup):dM zs ps ⟨ps',[],lv,[]⟩ where
 parts:=p1
 p8:=p8
 r20:=Nat.zero_le _
 K1:=K1
 u10:=Nat.zero_le _
 vD:=fun r h=>absurd h List.not_mem_nil
 rup:=List.Pairwise.nil
 leaves:=hl
 lnd:=up
 rules:=fun r h=>absurd h List.not_mem_nil
 unlike:=List.nodup_nil
theorem Yu {α:Type} {zs:List α} (h:zs.Nodup) {i j:Nat} {x:α} (hi:zs[i]?=some x) (hj:zs[j]?=some x):i=j:=by
 obtain ⟨x1,y1⟩:=List.getElem?_eq_some_iff.mp hi;obtain ⟨x2,y2⟩:=List.getElem?_eq_some_iff.mp hj;have hp:=List.pairwise_iff_getElem.mp h;rcases Nat.lt_trichotomy i j with l | l | l
 ·exact absurd (y1.trans y2.symm) (hp i j x1 x2 l)
 ·exact l
 ·exact absurd (y2.trans y1.symm) (hp j i x2 x1 l)
theorem Dv {α:Type} (D:α→PyData) {xs:List α} {a b:Nat} (h:a≤b) (hb:b≤xs.length):jQ (xs.map D) (some (a:Int)) (some (b:Int))=((xs.drop a).take (b - a)).map D:=by
 unfold jQ;rw [List.length_map,HT.Az,HT.Az,Nat.min_eq_left (show a≤xs.length by omega),Nat.min_eq_left hb,List.map_take,List.map_drop]
theorem Vp {C:Ce} {zs:List Str} {ps:List (Str×Str)} (hN:Names zs) (hP:bQ zs ps) (h8:ps.length≤8) (z a1 b1:Str) (n day:Int) (r:bz):
  wB [.im (.dict (cI (bG ps))),.im (cG z a1 b1 n),.im (.int day),.im (bK r)] C=some (.im (.bool (jZ (up ps z) n day a1 b1 r)),C):=by
 have p:=GP (C:=C) hN hP h8 z;have ct:jQ [PyData.str z,.int n,.str a1,.str b1] (some 2) none=[.str a1,.str b1]:=rfl;have c:=Wb uH uH (aq (aH bH (aG 3) (aq (fCst (.int 4))))) (aG 2) (aq (aH bH (aG 3) (aq (fCst (.int 5))))) (env:=[some (.im (.dict (cI (bG ps)))),some (.im (cG z a1 b1 n)),some (.im (.int day)),some (.im (bK r))]) (e1:=[some (.im (.dict (cI (bG ps)))),some (.im (cG z a1 b1 n)),some (.im (.int day)),some (.im (bK r))]) (e2:=[some (.im (.dict (cI (bG ps)))),some (.im (cG z a1 b1 n)),some (.im (.int day)),some (.im (bK r))]) (e3:=[some (.im (.dict (cI (bG ps)))),some (.im (cG z a1 b1 n)),some (.im (.int day)),some (.im (bK r))]) (C:=C) (C1:=C) (C2:=C) (x:=.int r.2.2.2.2.1) (y:=.int day) (z:=.int r.2.2.2.2.2.1) (a:=decide (r.2.2.2.2.1≤day)) (b:=decide (day≤r.2.2.2.2.2.1)) (by simp_arith [bK]) rfl rfl (by simp_arith [bK]) rfl;refine cD [some (.im (.dict (cI (bG ps)))),some (.im (cG z a1 b1 n)),some (.im (.int day)),some (.im (bK r))] rfl rfl ?_ rfl rfl;simp only [bK] at c ⊢;unfold jZ;cases hA:decide (r.2.1=a1∨r.2.1=b1) with
 | true=>
  simp_arith [qt,qe,m5,vB,Hj,ct,yX,hA]
 | false=>
  cases hB:decide (r.2.2.1=a1∨r.2.2.1=b1) with
  | true=>
   simp_arith [qt,qe,m5,vB,Hj,ct,yX,hA,hB]
  | false=>
   cases hC:decide (r.2.2.2.1∈up ps z) with
   | false=>simp_arith [qt,qe,m5,vB,Hj,ct,yX,hA,hB,p,j0,hC]
   | true=>
    simp_arith [qt,qe,m5,vB,Hj,ct,yX,hA,hB,p,j0,hC,oX,c];cases decide (r.2.2.2.2.1≤day) <;> cases decide (day≤r.2.2.2.2.2.1) <;> rfl
theorem at3 (a b c:PyData) {k:Int} (h0:0≤k) (h1:k < 3):∃x,n6 [a,b,c] k=some x∧(x=a∨x=b∨x=c):=by
 have:k=0∨k=1∨k=2:=by omega
 rcases this with rfl | rfl | rfl
 ·exact ⟨a,a_t0 _ _,.inl rfl⟩
 ·exact ⟨b,a_t1 _ _ _,.inr (.inl rfl)⟩
 ·exact ⟨c,a_t2 _ _ _ _,.inr (.inr rfl)⟩
theorem Dw (a b:Int):∃v,lG [.int a,.int b]=some (.im (.int v))∧v≤a∧v≤b∧(v=a∨v=b):=by
 by_cases h:b < a
 ·exact ⟨b,by simp only [lG,if_pos h],by omega,by omega,.inr rfl⟩
 ·exact ⟨a,by simp only [lG,if_neg h],by omega,by omega,.inl rfl⟩
theorem Vq (a b:Int):∃v,uP [.int a,.int b]=some (.im (.int v))∧a≤v∧b≤v∧(v=a∨v=b):=by
 by_cases h:b > a
 ·exact ⟨b,by simp only [uP,if_pos h],by omega,by omega,.inr rfl⟩
 ·exact ⟨a,by simp only [uP,if_neg h],by omega,by omega,.inl rfl⟩
theorem Lk {C:Ce} {b L j:Nat} (h:Bl L C b (j + 6)):∃(f l:Int) (C':Ce),gk [.ce b] C=some (.im (.tuple [.int f,.int l]),C')∧0≤f∧f≤l∧l≤99999∧Bl L C' b j:=by
 refine hide fun GG gg=>?_
 obtain ⟨t1,C1,e1,a1,b1,wC⟩:=aX (m:=9) (k:=j + 5) h (by decide) (by decide);obtain ⟨t2,C2,e2,a2,b2,hB2⟩:=aX (m:=9) (k:=j + 4) wC (by decide) (by decide);obtain ⟨t3,C3,e3,a3,b3,hB3⟩:=aX (m:=9) (k:=j + 3) hB2 (by decide) (by decide);obtain ⟨t4,C4,e4,a4,b4,SJ⟩:=aX (m:=3) (k:=j + 2) hB3 (by decide) (by decide);obtain ⟨t5,C5,e5,a5,b5,Yv⟩:=aX (m:=12) (k:=j + 1) SJ (by decide) (by decide);obtain ⟨t6,C6,e6,a6,b6,YD⟩:=aX (m:=3) (k:=j) Yv (by decide) (by decide);obtain ⟨x,i1,hx⟩:=at3 (.int t1) (.int t2) (.int (99990 - t3)) a4 b4;obtain ⟨y,i2,hy⟩:=at3 (.int 0) (.int t5) (.int 99999) a6 b6;obtain ⟨f,rfl,f0,f1⟩:∃f,x=.int f∧0≤f∧f≤99990:=by rcases hx with rfl | rfl | rfl <;> exact ⟨_,rfl,by omega,by omega⟩
 obtain ⟨g,rfl,g0⟩:∃g,y=.int g∧0≤g:=by rcases hy with rfl | rfl | rfl <;> exact ⟨_,rfl,by omega⟩
 obtain ⟨l,e7,l1,l2,l3⟩:=Dw 99999 (f + g);refine gg ⟨f,l,C6,cD [some (.ce b),none] rfl rfl ?_ rfl (h.eq YD),f0,by omega,l1,YD⟩;simp_arith [pL,e1,e2,e3,e4,i1,e5,e6,i2,e7]
theorem JF {C:Ce} {b L j:Nat} (h:Bl L C b (j + 4)):∃(n:Int) (C':Ce),dG [.ce b] C=some (.im (.int n),C')∧0≤n∧n≤1000000000∧Bl L C' b j:=by
 refine hide fun GG gg=>?_
 obtain ⟨t1,C1,e1,a1,b1,wC⟩:=aX (m:=4) (k:=j + 3) h (by decide) (by decide);obtain ⟨t2,C2,e2,a2,b2,hB2⟩:=aX (m:=4) (k:=j + 2) wC (by decide) (by decide);obtain ⟨t3,C3,e3,a3,b3,hB3⟩:=aX (m:=3) (k:=j + 1) hB2 (by decide) (by decide);obtain ⟨t4,C4,e4,a4,b4,SJ⟩:=aX (m:=3) (k:=j) hB3 (by decide) (by decide);obtain ⟨x,i1,hx⟩:=at3 (.int t1) (.int (100 + t2)) (.int (1000000000 - t3)) a4 b4;obtain ⟨f,rfl,f0,f1⟩:∃f,x=.int f∧0≤f∧f≤1000000000:=by rcases hx with rfl | rfl | rfl <;> exact ⟨_,rfl,by omega,by omega⟩
 have pw:vo (.int 10) (.int 9)=some (.im (.int 1000000000)):=rfl;refine gg ⟨f,C4,cD [some (.ce b)] rfl rfl ?_ rfl (h.eq SJ),f0,f1,SJ⟩;simp_arith [pM,e1,e2,pw,e3,e4,i1]
theorem nG (ps:List (Str×Str)) (h:ps.length≤60):∃qs:List Str,qs.Perm (ps.map (·.1))∧kW [.dict (cI (bG ps))]=some (.ow (.list (qs.map .str))):=by
 refine ⟨ir strLt (ps.map (·.1)),dI _,?_⟩;have e:(cI (bG ps)).map (·.1)=(ps.map (·.1)).map PyData.str:=by
  unfold cI bG;rw [List.map_map,List.map_map,List.map_map];rfl
 show ((strsOf ((cI (bG ps)).map (·.1))).bind _)=_;rw [e,jT,Option.bind_some,decide_eq_true (by rw [List.length_map];omega)];rfl
theorem Vr {a d m:Int} (a0:0≤a) (a1:a < m) (d0:1≤d) (d1:d < m):0≤(a + d) % m∧(a + d) % m < m∧(a + d) % m≠a:=by
 refine ⟨Int.emod_nonneg _ (by omega),Int.emod_lt_of_pos _ (by omega),?_⟩;by_cases h:a + d < m
 ·rw [Int.emod_eq_of_lt (by omega) h];omega
 ·have e:(a + d) % m=a + d - m:=by
   rw [show a + d=m + (a + d - m) by omega,Int.add_emod_left,Int.emod_eq_of_lt (by omega) (by omega)];omega
  omega
abbrev SM (b:Nat) (ps:List (Str×Str)) (pe:List Str) (many:Int) (pap:PyData) (day:Int) (lv:List bz) (os:List Str) (v8 v9 v10 v11 gb rO:Option Vl):En:=
 [some (.ce b),some (.im (.dict (cI (bG ps)))),some (.im (.list (pe.map .str))),some (.im (.int many)),some (.im pap),some (.im (.int day)),some (.ow (.list (lv.map bK))),some (.ow (.list (os.map .str))),v8,v9,v10,v11,gb,rO]
structure aal (zs own pe:List Str) (num:Int) (r:bz):Prop where
 num:r.1=num
 ok:qi zs own r
 giver:r.2.1∈pe
 taker:r.2.2.1∈pe
theorem G5 {C:Ce} {b L j:Nat} {zs pe:List Str} {ps:List (Str×Str)} {z a1 b1:Str} {n day num many:Int} {lv:List bz} (hB:Bl L C b (j + 19)) (hN:Names zs) (hP:bQ zs ps) (p0:0 < ps.length) (p8:ps.length≤8) (pl:2≤pe.length) (pl2:pe.length≤20) (pn:pe.Nodup) (pz:∀x∈pe,x∈zs) (n0:0≤n) (n1:n≤1000000000) (d0:0≤day) (d1:day≤99999) (nb:0≤num∧num≤2000) (ll:lv.length≤16) (v9 v10 v11 gb rO:Option Vl):
  ∃(r:bz) (C':Ce) (w9 w10 w11 w12 w13:Option Vl),cF (SM b ps pe many (cG z a1 b1 n) day lv (up ps z) (some (.im (.int num))) v9 v10 v11 gb rO) C=some (.nx,SM b ps pe many (cG z a1 b1 n) day (lv++[r]) (up ps z) (some (.im (.int num))) w9 w10 w11 w12 w13,C')∧aal zs (ps.map (·.1)) pe num r∧Bl L C' b j:=by
 refine hide fun GG gg=>?_
 obtain ⟨t1,C1,e1,a1',b1',wC⟩:=aX (m:=(pe.length:Int)) (k:=j + 18) hB (by omega) (by omega);obtain ⟨t2,C2,e2,a2,b2,hB2⟩:=aX (m:=(pe.length:Int) - 1) (k:=j + 17) wC (by omega) (by omega);obtain ⟨t3,C3,e3,a3,b3,hB3⟩:=aX (m:=2) (k:=j + 16) hB2 (by decide) (by decide);have mu:eN (.int t2) (.int t3)=some (.im (.int (t2 * t3))):=mul_eq (.inl (by omega));have md:=mod_eq (i:=t1 + 1 + t2 * t3) (j:=(pe.length:Int)) (by omega);obtain ⟨d,hd,dl,dh⟩:∃d:Int,t1 + 1 + t2 * t3=t1 + d∧1≤d∧d < pe.length:=by
  have:t3=0∨t3=1:=by omega
  rcases this with rfl | rfl
  ·exact ⟨1,by rw [Int.mul_zero];omega,by omega,by omega⟩
  ·exact ⟨1 + t2,by rw [Int.mul_one];omega,by omega,by omega⟩
 obtain ⟨r0,r1,r2⟩:=Vr a1' b1' dl dh;rw [←hd] at r0 r1 r2;generalize (t1 + 1 + t2 * t3) % (pe.length:Int)=to at md r0 r1 r2;obtain ⟨g,mg,ig,xg⟩:=dN (zs:=pe) a1' b1';obtain ⟨t,mt,it,xt⟩:=dN (zs:=pe) r0 r1;have hne:g≠t:=fun z=>by
  subst z;have:=Yu pn ig it;omega
 obtain ⟨qs,qp,so⟩:=nG ps (by omega);have ln:=u6 ps;obtain ⟨t4,C4,e4,a4,b4,SJ⟩:=aX (m:=(ps.length:Int)) (k:=j + 15) hB3 (by omega) (by omega);obtain ⟨y,my,_,xy⟩:=dN (zs:=qs) a4 (by rw [qp.length_eq,List.length_map];exact b4);have oy:y∈ps.map (·.1):=qp.mem_iff.mp my;obtain ⟨f,l,C5,e5,f0,f1,f2,Yv⟩:=Lk (j:=j + 9) SJ;obtain ⟨s,C6,e6,s0,s1,YD⟩:=JF (j:=j + 5) Yv;obtain ⟨t7,C7,e7,a7,b7,hB7⟩:=aX (m:=3) (k:=j + 4) YD (by decide) (by decide);have q:(lv.length < 1000000)=True:=eq_true (by omega);have t42:∀a b c d e f:PyData,aY (.tuple [a,b,c,d]) (.tuple [e,f])=some (.im (.tuple [a,b,c,d,e,f])):=fun _ _ _ _ _ _=>K5 (Nat.le_of_ble_eq_true rfl)
 have t61:∀a b c d e f g:PyData,aY (.tuple [a,b,c,d,e,f]) (.tuple [g])=some (.im (.tuple [a,b,c,d,e,f,g])):=fun _ _ _ _ _ _ _=>K5 (Nat.le_of_ble_eq_true rfl)
 have pw:vo (.int 10) (.int 9)=some (.im (.int 1000000000)):=rfl;have nn:=ne_nil (up ps z) fun x hx=>yu hN hP (Sq hN hP hx)
 have gr:∀(y:Str) (f l m:Int) (w9:Option Vl),y∈ps.map (·.1)→(0≤f∧f≤l∧l≤99999)→(0≤m∧m≤1000000000)→aal zs (ps.map (·.1)) pe num (num,g,t,y,f,l,m):=fun y f l m w9 hy hd hm=>⟨rfl,⟨nb,pz _ mg,pz _ mt,hne,hy,hd,hm⟩,mg,mt⟩
 have other:∀C8,Bl L C8 b j→(cF (SM b ps pe many (cG z a1 b1 n) day lv (up ps z) (some (.im (.int num))) v9 v10 v11 gb rO) C=some (.nx,SM b ps pe many (cG z a1 b1 n) day (lv++[(num,g,t,y,f,l,s)]) (up ps z) (some (.im (.int num))) (some (.im (.int t1))) (some (.im (.int to))) (some (.im (.str y))) (some (.im (.tuple [.int f,.int l]))) (some (.im (.int s))),C8))→GG:=fun C8 h8 run=>gg ⟨_,C8,_,_,_,_,_,run,gr y f l s none oy ⟨f0,f1,f2⟩ ⟨s0,s1⟩,h8⟩
 by_cases h7:0 < t7
 ·have h7':=decide_eq_true h7;by_cases hu:up ps z=[]
  ·rw [hu] at nn;refine other C7 (hB7.mono (by omega)) ?_;simp only [SM,hu,List.map_nil,List.isEmpty_nil] at nn ⊢;simp_arith [cF,e1,e2,e3,mu,md,so,ln,e4,xy,e5,e6,e7,h7',nn,xg,xt,t42,t61,lF,jO,q];simp only [List.map_append,List.map_cons,List.map_nil,bK]
  ·have u0:0 < (up ps z).length:=List.length_pos_iff.mpr hu;have ul:=Jl ps z;have nn:uG (.list ((up ps z).map .str)) (.list [])=some (.im (.bool true)):=by
    rw [nn];cases hh:up ps z with
    | nil=>exact absurd hh hu
    | cons _ _=>rfl
   obtain ⟨t8,C8,e8,a8,b8,hB8⟩:=aX (m:=((up ps z).length:Int)) (k:=j + 3) hB7 (by omega) (by omega);obtain ⟨y2,my2,_,xy2⟩:=dN (zs:=up ps z) a8 b8;obtain ⟨t9,C9,e9,a9,b9,hB9⟩:=aX (m:=2) (k:=j + 2) hB8 (by decide) (by decide);obtain ⟨tA,CA,eA,aA,bA,hBA⟩:=aX (m:=2) (k:=j + 1) hB9 (by decide) (by decide);obtain ⟨tB,CB,eB,aB,bB,hBB⟩:=aX (m:=2) (k:=j) hBA (by decide) (by decide);obtain ⟨f',x1,x2,x3,x4⟩:=Vq 0 (day - t9);obtain ⟨l',x5,x6,x7,x8⟩:=Dw 99999 (day + tA);obtain ⟨m',x9,xA,xB,xC⟩:=Dw 1000000000 (n + tB);refine gg ⟨(num,g,t,y2,f',l',m'),CB,some (.im (.int t1)),some (.im (.int to)),some (.im (.str y2)),some (.im (.tuple [.int f',.int l'])),some (.im (.int m')),?_,gr y2 f' l' m' none (Sq hN hP my2) ⟨x2,by omega,x6⟩ ⟨by omega,xA⟩,hBB⟩;simp_arith [cF,e1,e2,e3,mu,md,so,ln,e4,xy,e5,e6,e7,h7',nn,e8,xy2,e9,x1,eA,x5,pw,eB,x9,xg,xt,t42,t61,lF,jO,q];simp only [SM,List.map_append,List.map_cons,List.map_nil,bK]
 ·have h7':=decide_eq_false h7;refine other C7 (hB7.mono (by omega)) ?_;simp_arith [cF,e1,e2,e3,mu,md,so,ln,e4,xy,e5,e6,e7,h7',xg,xt,t42,t61,lF,jO,q];simp only [SM,List.map_append,List.map_cons,List.map_nil,bK]
theorem N5 {C:Ce} {b L j:Nat} {zs pe:List Str} {ps:List (Str×Str)} {z a1 b1:Str} {n day:Int} {many:Int} (hB:Bl L C b (j + 405)) (hN:Names zs) (hP:bQ zs ps) (p0:0 < ps.length) (p8:ps.length≤8) (pl:2≤pe.length) (pl2:pe.length≤20) (pn:pe.Nodup) (pz:∀x∈pe,x∈zs) (n0:0≤n) (n1:n≤1000000000) (d0:0≤day) (d1:day≤99999) (m0:0≤many) (m1:many≤16):
  ∃(lv:List bz) (C':Ce),gW [.ce b,.im (.dict (cI (bG ps))),.im (.list (pe.map .str)),.im (.int many),.im (cG z a1 b1 n),.im (.int day)] C=some (.ow (.list (lv.map bK)),C')∧lv.length≤16∧(∀r∈lv,qi zs (ps.map (·.1)) r∧r.2.1∈pe∧r.2.2.1∈pe)∧(lv.map (·.1)).Pairwise (· < ·)∧Bl L C' b j:=by
 refine hide fun GG gg=>?_
 have o1:=GP (C:=C) hN hP p8 z;have ig:decide ((1:Int) < (pe.length:Int))=true:=decide_eq_true (by omega);have mu:eN (.int many) (.int 1)=some (.im (.int (many * 1))):=mul_eq (.inl (by omega));rw [Int.mul_one] at mu;obtain ⟨ns,C1,e1,nl,hn,rise,wC⟩:=NK (j:=j + 304) (m:=many) hB m0 (by omega);obtain ⟨env',C',e,lv,w8,w9,w10,w11,w12,w13,he,hm,hr,hB'⟩:=iI (g:=gNm 8) (body:=cF) (its:=ns.map .int) (env:=SM b ps pe many (cG z a1 b1 n) day [] (up ps z) none none none none none none) (C:=C1)
  (fun i env C2=>∃(lv:List bz) (w8 w9 w10 w11 w12 w13:Option Vl),env=SM b ps pe many (cG z a1 b1 n) day lv (up ps z) w8 w9 w10 w11 w12 w13∧lv.map (·.1)=ns.take i∧(∀r∈lv,qi zs (ps.map (·.1)) r∧r.2.1∈pe∧r.2.2.1∈pe)∧Bl L C2 b (j + 19 * (16 - i)))
  ⟨[],none,none,none,none,none,none,rfl,rfl,(fun _ h=>nomatch h),wC⟩ (fun i d env C2 hd hI=>by
   obtain ⟨lv,w8,w9,w10,w11,w12,w13,rfl,hm,hr,hB⟩:=hI;obtain ⟨x,rfl,hx,mx,hi⟩:=U4 hd;rw [K6 j 19 (by omega:i < 16)] at hB;have ll:lv.length≤16:=by
    have:=congrArg List.length hm;rw [List.length_map,List.length_take] at this;omega
   obtain ⟨r,C3,w9,w10,w11,w12,w13,e,h1,hB3⟩:=G5 (z:=z) (a1:=a1) (b1:=b1) (many:=many) (lv:=lv) hB hN hP p0 p8 pl pl2 pn pz n0 n1 d0 d1 (hn x mx) ll w9 w10 w11 w12 w13;refine ⟨_,.nx,_,C3,rfl,e,.inl rfl,lv++[r],_,_,_,_,_,_,rfl,?_,fun q hq=>?_,hB3⟩
   ·rw [List.map_append,hm,take_snoc hx,List.map_cons,h1.num];rfl
   ·rcases List.mem_append.mp hq with hq | hq
    ·exact hr q hq
    ·rw [List.mem_singleton.mp hq];exact ⟨h1.ok,h1.giver,h1.taker⟩)
 rw [List.length_map] at hm hB';rw [List.take_length] at hm;subst he;have ll:lv.length≤16:=by
  have:=congrArg List.length hm;rw [List.length_map] at this;omega
 have hB2:Bl L C' b j:=hB'.mono (Nat.le_add_right _ _);refine gg ⟨lv,C',cD [some (.ce b),some (.im (.dict (cI (bG ps)))),some (.im (.list (pe.map .str))),some (.im (.int many)),some (.im (cG z a1 b1 n)),some (.im (.int day)),none,none,none,none,none,none,none,none] rfl rfl ?_ rfl (hB.eq hB2),ll,hr,by rw [hm];exact rise,hB2⟩;simp only [SM,List.map_nil] at e;simp_arith [jW,o1,ig,qK,mu,e1,gG,e]
structure Yw (zs:List Str) (ps:List (Str×Str)) (pe:List Str) (lv:List bz) (z a1 b1:Str) (n day:Int):Prop where
 names:Names zs
 len:zs.length=24
 parts:bQ zs ps
 p0:0 < ps.length
 p8:ps.length≤8
 two:2≤pe.length
 few:pe.length≤17
 acO:pe.Nodup
 acP:∀x∈pe,x∈zs
 adN:z∈zs
 adO:a1∈zs
 adP:b1∈zs
 n0:0≤n
 n1:n≤1000000000
 d0:0≤day
 d1:day≤99999
 K1:lv.length≤16
 leaves:∀r∈lv,qi zs (ps.map (·.1)) r∧r.2.1∈pe∧r.2.2.1∈pe
 rise:(lv.map (·.1)).Pairwise (· < ·)
abbrev aan (ps:List (Str×Str)) (pe:List Str) (lv:List bz) (z a1 b1:Str) (n day:Int):PyData:=.tuple [.dict (cI (bG ps)),.list (pe.map .str),.list (lv.map bK),cG z a1 b1 n,.int day]
theorem Vs {C:Ce} {b L j:Nat} {most:Int} (hB:Bl L C b (j + 460)) (m0:0≤most) (m1:most≤16):
  ∃(zs:List Str) (ps:List (Str×Str)) (pe:List Str) (lv:List bz) (z a1 b1:Str) (n day:Int) (C':Ce),wA [.ce b,.im (.int most)] C=some (.im (aan ps pe lv z a1 b1 n day),C')∧Yw zs ps pe lv z a1 b1 n day∧Bl L C' b j:=by
 refine hide fun GG gg=>?_
 obtain ⟨zs,C1,e1,hN,h24,wC⟩:=R3 (m:=24) (j:=j + 448) hB (by decide) (by decide);have h24:zs.length=24:=h24;obtain ⟨t2,C2,e2,a2,b2,hB2⟩:=aX (m:=8) (k:=j + 447) wC (by decide) (by decide);have ct:=JB (zs:=zs) (m:=1 + t2) (by omega) (by omega);have tl:(zs.take (1 + t2).toNat).length=(1 + t2).toNat:=by rw [List.length_take];omega
 obtain ⟨ps,C3,e3,hP,pl,hB3⟩:=NB (j:=j + 431) (zs:=zs.take (1 + t2).toNat) hB2 (by omega) ⟨hN.1.sublist (List.take_sublist _ _),fun z hz=>hN.2 z (List.mem_of_mem_take hz)⟩;have hP:=JD hP;have p0:0 < ps.length:=by omega
 have p8:ps.length≤8:=by omega
 have ln:=u6 ps;obtain ⟨t4,C4,e4,a4,b4,SJ⟩:=aX (m:=3) (k:=j + 430) hB3 (by decide) (by decide);obtain ⟨x4,i4,h4⟩:=at3 (.int 4) (.int 9) (.int 16) a4 b4;obtain ⟨w,rfl,w0,w1⟩:∃w,x4=.int w∧0 < w∧w≤16:=by rcases h4 with rfl | rfl | rfl <;> exact ⟨_,rfl,by omega,by omega⟩
 obtain ⟨t5,C5,e5,a5,b5,Yv⟩:=aX (m:=w) (k:=j + 429) SJ w0 (by omega);obtain ⟨k5,hk5⟩:∃k5:Nat,2 + 2 + t5=((2 + (2 + k5):Nat):Int):=⟨t5.toNat,by omega⟩
 have ct2:=Dv PyData.str (xs:=zs) (a:=2) (b:=2 + (2 + k5)) (by omega) (by omega);rw [←hk5,show 2 + (2 + k5) - 2=2 + k5 by omega] at ct2;have ct2:jQ (zs.map PyData.str) (some 2) (some (2 + 2 + t5))=_:=ct2;obtain ⟨pe,hpe⟩:∃pe,pe=(zs.drop 2).take (2 + k5):=⟨_,rfl⟩
 rw [←hpe] at ct2;have pl1:pe.length=2 + k5:=by rw [hpe,List.length_take,List.length_drop];omega
 have pnd:pe.Nodup:=by rw [hpe];exact hN.1.sublist ((List.take_sublist _ _).trans (List.drop_sublist _ _))
 have pin:∀x∈pe,x∈zs:=fun x hx=>by rw [hpe] at hx;exact List.mem_of_mem_drop (List.mem_of_mem_take hx)
 have ct3:=Dv PyData.str (xs:=zs) (a:=18) (b:=20) (by decide) (by omega);have ct3:jQ (zs.map PyData.str) (some 18) (some 20)=_:=ct3;obtain ⟨ex,hex⟩:∃ex,ex=(zs.drop 18).take (20 - 18):=⟨_,rfl⟩
 rw [←hex] at ct3;have exl:ex.length≤2:=by rw [hex,List.length_take];omega
 have xin:∀x∈ex,x∈zs:=fun x hx=>by rw [hex] at hx;exact List.mem_of_mem_drop (List.mem_of_mem_take hx)
 have ad1:aY (.list (pe.map .str)) (.list (ex.map .str))=some (.ow (.list ((pe++ex).map .str))):=by
  rw [List.map_append];exact add_l (by rw [List.length_map,List.length_map];omega)
 obtain ⟨sm,hsm⟩:∃sm,sm=pe++ex:=⟨_,rfl⟩
 rw [←hsm] at ad1;have sl:0 < sm.length∧sm.length≤100:=by rw [hsm,List.length_append];omega
 have sin:∀x∈sm,x∈zs:=fun x hx=>by
  rw [hsm] at hx;rcases List.mem_append.mp hx with hx | hx
  ·exact pin x hx
  ·exact xin x hx
 obtain ⟨t6,C6,e6,a6,b6,YD⟩:=aX (m:=(sm.length:Int)) (k:=j + 428) Yv (by omega) (by omega);obtain ⟨s1,m1',_,x1⟩:=dN (zs:=sm) a6 b6;obtain ⟨t7,C7,e7,a7,b7,hB7⟩:=aX (m:=(sm.length:Int)) (k:=j + 427) YD (by omega) (by omega);obtain ⟨s2,m2',_,x2⟩:=dN (zs:=sm) a7 b7;have fin:∀(C9:Ce) (a1 b1:Str),a1∈zs→b1∈zs→Bl L C9 b (j + 425)→(jr (fTst (aH BJ (aq (fCal aK (aCons (fVar 0) (aCons (fCst (.int 3)) aNil)))) (aq (fCst (.int 0))))) (fSet 6 (fTup (aCons (aH bH (aG 2) (aq (fCst (.int 20)))) (aCons (aH bH (aG 2) (aq (aH aY (aq (fCst (.int 20))) (aq (fCal aK (aCons (fVar 0) (aCons (fCst (.int 2)) aNil))))))) aNil)))) fNext [some (.ce b),some (.im (.int most)),some (.ow (.list (zs.map .str))),some (.ow (.dict (cI (bG ps)))),some (.ow (.list (pe.map .str))),some (.ow (.list (sm.map .str))),some (.im (.tuple [.str s1,.str s2])),none,none,none] C7=some (.nx,[some (.ce b),some (.im (.int most)),some (.ow (.list (zs.map .str))),some (.ow (.dict (cI (bG ps)))),some (.ow (.list (pe.map .str))),some (.ow (.list (sm.map .str))),some (.im (.tuple [.str a1,.str b1])),none,none,none],C9))→GG:=fun C9 a1 b1 ha hb hB9 e9=>by
  obtain ⟨qs,qp,so⟩:=nG ps (by omega);have ct4:=Dv PyData.str (xs:=zs) (a:=22) (b:=23) (by decide) (by omega);have ct4:jQ (zs.map PyData.str) (some 22) (some 23)=_:=ct4;obtain ⟨ey,hey⟩:∃ey,ey=(zs.drop 22).take (23 - 22):=⟨_,rfl⟩
  rw [←hey] at ct4;have eyl:ey.length=1:=by rw [hey,List.length_take,List.length_drop];omega
  have yin:∀x∈ey,x∈zs:=fun x hx=>by rw [hey] at hx;exact List.mem_of_mem_drop (List.mem_of_mem_take hx)
  have ql:qs.length=ps.length:=by rw [qp.length_eq,List.length_map]
  have ad2:aY (.list (qs.map .str)) (.list (ey.map .str))=some (.ow (.list ((qs++ey).map .str))):=by
   rw [List.map_append];exact add_l (by rw [List.length_map,List.length_map];omega)
  obtain ⟨qy,hqy⟩:∃qy,qy=qs++ey:=⟨_,rfl⟩
  rw [←hqy] at ad2;have qyl:qy.length=ps.length + 1:=by rw [hqy,List.length_append];omega
  have qin:∀x∈qy,x∈zs:=fun x hx=>by
   rw [hqy] at hx;rcases List.mem_append.mp hx with hx | hx
   ·have:=qp.mem_iff.mp hx;rw [rG hP] at this;exact List.mem_of_mem_take this
   ·exact yin x hx
  obtain ⟨tA,CA,eA,aA,bA,hBA⟩:=aX (m:=9) (k:=j + 424) hB9 (by decide) (by decide);obtain ⟨u,hu,u0,u1⟩:∃u:Int,(if (tA==0)=true then (1:Int) else 0)=u∧0≤u∧u≤1:=⟨_,rfl,by split <;> omega,by split <;> omega⟩
  obtain ⟨tB,CB,eB,aB,bB,hBB⟩:=aX (m:=(ps.length:Int) + u) (k:=j + 423) hBA (by omega) (by omega);obtain ⟨z,mz,_,xz⟩:=dN (zs:=qy) aB (by omega);obtain ⟨n,CC,eC,n0,n1,hBC⟩:=JF (j:=j + 419) hBB;obtain ⟨f,l,CD,eD,f0,f1,f2,hBD⟩:=Lk (j:=j + 413) hBC;obtain ⟨tE,CE,eE,aE,bE,hBE⟩:=aX (m:=2) (k:=j + 412) hBD (by decide) (by decide);obtain ⟨day,iE,d0,d1⟩:∃day:Int,n6 [PyData.int f,.int l] tE=some (.int day)∧0≤day∧day≤99999:=by
   have:tE=0∨tE=1:=by omega
   rcases this with rfl | rfl
   ·exact ⟨f,a_t0 _ _,f0,by omega⟩
   ·exact ⟨l,a_t1 _ _ _,by omega,f2⟩
  obtain ⟨tF,CF,eF,aF,bF,hBF⟩:=aX (m:=most + 1) (k:=j + 411) hBE (by omega) (by omega);obtain ⟨lv,CG,eG,K1,hr,rise,hBG⟩:=N5 (many:=tF) (j:=j + 6) (z:=z) (a1:=a1) (b1:=b1) (n:=n) (day:=day) hBF hN hP p0 p8 (by omega) (by omega) pnd pin n0 n1 d0 d1 aF (by omega);refine gg ⟨zs,ps,pe,lv,z,a1,b1,n,day,CG,cD [some (.ce b),some (.im (.int most)),none,none,none,none,none,none,none,none] rfl rfl ?_ rfl (hB.eq hBG),⟨hN,h24,hP,p0,p8,by omega,by omega,pnd,pin,qin z mz,ha,hb,n0,n1,d0,d1,K1,hr,rise⟩,hBG.mono (by omega)⟩;have t22:∀a b c d:PyData,aY (.tuple [a,b]) (.tuple [c,d])=some (.im (.tuple [a,b,c,d])):=fun _ _ _ _=>K5 (Nat.le_of_ble_eq_true rfl)
  simp_arith [Dj,e1,e2,qe,m5,vB,Hj,ct,e3,e4,i4,e5,ct2,ct3,ad1,e6,x1,e7,x2,↓e9,so,ct4,ad2,ln,eA,qK,hu,eB,xz,eC,t22,eD,eE,iE,eF,eG]
 obtain ⟨t8,C8,e8,a8,b8,hB8⟩:=aX (m:=3) (k:=j + 426) hB7 (by decide) (by decide);by_cases h8:0 < t8
 ·have h8':=decide_eq_true h8;obtain ⟨t9,C9,e9,a9,b9,hB9⟩:=aX (m:=2) (k:=j + 425) hB8 (by decide) (by decide);obtain ⟨y0,n0,_,z0⟩:=dN (zs:=zs) (k:=20) (by omega) (by omega);obtain ⟨y1,n1,_,z1⟩:=dN (zs:=zs) (k:=20 + t9) (by omega) (by omega);exact fin C9 y0 y1 n0 n1 hB9 (by simp_arith [e8,h8',z0,e9,z1])
 ·have h8':=decide_eq_false h8;exact fin C8 s1 s2 (sin _ m1') (sin _ m2') hB8.dec (by simp_arith [e8,h8'])
theorem same_str {C:Ce} (n:Nat) (x:Str):gU (n + 1) [.im (.str x),.im (.str x)] C=some (.im (.bool true),C):=by
 refine Wc (k:=2) (n:=2) (en:=[some (.im (.str x)),some (.im (.str x))]) (e1:=[some (.im (.str x)),some (.im (.str x))]) rfl rfl ?_ rfl rfl;simp_arith [wz,rE,Ga,Jc,Kh,isNone,oX,Kq,eq_strs]
theorem N6 {C:Ce} (n:Nat) (xs:List Str) (hl:xs.length≤1000):gU (n + 2) [.im (.list (xs.map .str)),.im (.list (xs.map .str))] C=some (.im (.bool true),C):=by
 have t:gH (.many 2) gZ (yN (gU (n + 1))) [] (tQ (xs.map .str) (xs.map .str)) C=some (List.replicate xs.length (.bool true),C):=by
  clear hl;induction xs with
  | nil=>rfl
  | cons x xs ih=>
   rw [List.map_cons,tQ];unfold gH;rw [List.length_cons,List.replicate_succ];simp_arith [V6,gZ,mO,List.append_nil,same_str n x,ih]
 have b:=Jm xs.length;have h1:(xs.length≤1000000)=True:=eq_true (by omega);refine Wc (k:=2) (n:=2) (en:=[some (.im (.list (xs.map .str))),some (.im (.list (xs.map .str)))]) (e1:=[some (.im (.list (xs.map .str))),some (.im (.list (xs.map .str)))]) rfl rfl ?_ rfl rfl;simp_arith [wz,rE,Ga,Jc,oX,iZp,t,b.1,b.2,List.length_replicate,h1]
theorem N7 (l:List Str) (h:l.length < 64):vZ [.list (l.map .str)]=some (.ow (.list ((ir strLt l).map .str))):=by
 have hs:Gb (l.map .str)=some ((ir strLt l).map .str):=by
  unfold Gb;rw [if_pos (by rw [List.length_map];exact h)];cases l with
  | nil=>rfl
  | cons x l=>
   rw [show intsOf ((x::l).map PyData.str)=none from rfl,jT]
 unfold vZ tL;simp only [hs,Option.map_some]
def Dy (ws:List (Int×Str×Str)) (side:Prop) (h:Str) (qs:List Str):Prop:=∃l:List Str,l.Nodup∧(∀x,x∈l ↔ ¬side∧YC ws h x)∧qs=ir strLt l
theorem Dy.unique {ws:List (Int×Str×Str)} {side:Prop} {h:Str} {qs qs':List Str} (a:Dy ws side h qs) (b:Dy ws side h qs'):qs=qs':=by
 obtain ⟨l,n,m,rfl⟩:=a;obtain ⟨l',n',m',rfl⟩:=b;have p:l.Perm l':=Ak n n' fun x=>(m x).trans (m' x).symm
 exact Cp UL (fun _ _=>trivial) ((dI l).trans p) (yc UL fun _ _=>trivial)
theorem Dy.mem {ws:List (Int×Str×Str)} {side:Prop} {h:Str} {qs:List Str} (a:Dy ws side h qs) (x:Str):x∈qs ↔ ¬side∧YC ws h x:=by
 obtain ⟨l,n,m,rfl⟩:=a;rw [(dI l).mem_iff,m x]
theorem JG {C:Ce} {zs:List Str} {ps:List (Str×Str)} {ht:fH} (hN:Names zs) (hP:bQ zs ps) (hG:dM zs ps ht) (z a1 b1:Str) (n day:Int) (h:Str):
  ∃qs:List Str,gR [.im (dB ht),.im (cG z a1 b1 n),.im (.str h),.im (.int day)] C=some (.ow (.list (qs.map .str)),C)∧qs.length≤61∧Dy (gY ht (up ps z) n day a1 b1) (h=a1∨h=b1) h qs:=by
 have s1:=uf (C:=C) (z:=z) (a1:=a1) (b1:=b1) (n:=n) (p:=h);have w:=Sd (C:=C) hN hP hG z a1 b1 n day;have wf:=zc hG (up ps z) n day a1 b1;by_cases h1:h=a1∨h=b1
 ·refine ⟨[],cD [some (.im (dB ht)),some (.im (cG z a1 b1 n)),some (.im (.str h)),some (.im (.int day)),none] rfl rfl ?_ rfl rfl,Nat.zero_le _,[],List.nodup_nil,fun x=>⟨fun m=>(List.not_mem_nil m).elim,fun m=>(m.1 h1).elim⟩,rfl⟩;rw [decide_eq_true h1] at s1;simp_arith [jB,s1]
 ·rw [decide_eq_false h1] at s1;generalize hws:gY ht (up ps z) n day a1 b1=ws at w wf;obtain ⟨st,e1,B⟩:=zb (C:=C) (ws:=ws.map mG) (s:=h) (by rw [List.length_map];exact wf);have c:=eZ (T:=.many 3) (ft:=gZ) (fe:=nZ) (fs:=[]) (C:=C) wD (fun _=>true) (fun w=>wD (mG w)) (l:=ws) fun w _=>⟨[.int w.1,.str w.2.1,.str w.2.2],rfl,rfl,fun _=>⟨.im (wD (mG w)),_,by simp_arith [mO,List.append_nil];rfl,rfl⟩⟩
  rw [List.filter_eq_self.mpr fun _ _=>rfl,show ws.map (fun w=>wD (mG w))=(ws.map mG).map wD by rw [List.map_map];rfl] at c;have q:(ws.length≤1000000)=True:=eq_true (by omega);have nl:fY ((ws.map mG).map wD)=true:=zf (fun _=>rfl) _;have kl:(st.map (·.1)).length≤61:=by
   have:=len_sub (m:=h::(ws.map mG).map (·.2.1)) B.nd fun p hp=>by
    obtain ⟨r,hr⟩:=(B.iff p).mp hp;cases hr with
    | nil=>exact List.mem_cons_self
    | cons hw _=>exact List.mem_cons_of_mem _ (List.mem_map.mpr ⟨_,hw,rfl⟩)
   simp only [List.length_cons,List.length_map] at this ⊢;omega
  have so:kW [.dict (cI (stL st))]=some (.ow (.list ((ir strLt (st.map (·.1))).map .str))):=by
   have e:(cI (stL st)).map (·.1)=(st.map (·.1)).map PyData.str:=by
    unfold cI stL;rw [List.map_map,List.map_map,List.map_map];rfl
   show ((strsOf ((cI (stL st)).map (·.1))).bind _)=_;rw [e,jT,Option.bind_some,decide_eq_true (by omega)];rfl
  refine ⟨ir strLt (st.map (·.1)),cD [some (.im (dB ht)),some (.im (cG z a1 b1 n)),some (.im (.str h)),some (.im (.int day)),none] rfl rfl ?_ rfl rfl,by rw [(dI _).length_eq];exact kl,st.map (·.1),B.nd,fun x=>(B.keys x).trans ⟨fun r=>⟨h1,r⟩,fun r=>r.2⟩,rfl⟩;simp_arith [jB,s1,w,c,q,nl,e1,so]
def fU (P:bz→Bool) (f:List Str) (r:bz):List Str:=if (r.2.1∈f∧r.2.2.1∉f)∧P r=true then f++[r.2.2.1] else f
def qZ (P:bz→Bool) (lv:List bz):Nat→List Str→List Str
 | 0,f=>f
 | n + 1,f=>qZ P lv n (lv.foldl (fU P) f)
section
variable {P:bz→Bool} {ws:List (Int×Str×Str)} {h:Str}
theorem G6 (f:List Str) (r:bz):(fU P f r).length≤f.length + 1:=by
 unfold fU;split
 ·rw [List.length_append];exact Nat.le_refl _
 ·exact Nat.le_succ _
theorem G7 {f:List Str} {r:bz} {x:Str} (hx:x∈f):x∈fU P f r:=by
 unfold fU;split
 ·exact List.mem_append_left _ hx
 ·exact hx
theorem zg {x:Str}:∀{lv:List bz} {f:List Str},x∈f→x∈lv.foldl (fU P) f
 | [],_,hx=>hx
 | r::lv,f,hx=>zg (lv:=lv) (f:=fU P f r) (G7 hx)
theorem G8:∀(lv:List bz) (f:List Str),(lv.foldl (fU P) f).length≤f.length + lv.length
 | [],_=>Nat.le_refl _
 | r::lv,f=>by
  have:=G8 lv (fU P f r);have:=G6 (P:=P) f r;rw [List.foldl_cons,List.length_cons];omega
theorem G9 {r:bz} (hp:P r=true):∀{lv:List bz} {f:List Str},r∈lv→r.2.1∈f→r.2.2.1∈lv.foldl (fU P) f
 | q::lv,f,hm,hg=>by
  rcases List.mem_cons.mp hm with rfl | hm
  ·refine zg (lv:=lv) ?_;unfold fU;split
   ·exact List.mem_append_right _ (List.mem_singleton.mpr rfl)
   ·rename_i n;apply Classical.byContradiction;intro c;exact n ⟨⟨hg,c⟩,hp⟩
  ·exact G9 (lv:=lv) (f:=fU P f q) hp hm (G7 hg)
def JH (ws:List (Int×Str×Str)) (h:Str) (f:List Str):Prop:=f.Nodup∧∀x∈f,YC ws h x
theorem Vt {f:List Str} {r:bz} (hw:P r=true→JC r∈ws) (H:JH ws h f):JH ws h (fU P f r):=by
 unfold fU;split
 ·rename_i c;refine ⟨List.nodup_append.mpr ⟨H.1,List.nodup_cons.mpr ⟨List.not_mem_nil,List.nodup_nil⟩,fun a ha b hb e=>?_⟩,fun x hx=>?_⟩
  ·rw [List.mem_singleton.mp hb] at e;exact c.1.2 (e ▸ ha)
  ·rcases List.mem_append.mp hx with hx | hx
   ·exact H.2 x hx
   ·rw [List.mem_singleton.mp hx];obtain ⟨p,hp⟩:=H.2 _ c.1.1;exact ⟨_,hp.snoc (hw c.2)⟩
 ·exact H
theorem Ln:∀{lv:List bz} {f:List Str},(∀r∈lv,P r=true→JC r∈ws)→JH ws h f→JH ws h (lv.foldl (fU P) f)
 | [],_,_,H=>H
 | r::lv,f,hw,H=>Ln (lv:=lv) (fun q hq=>hw q (List.mem_cons_of_mem _ hq)) (Vt (hw r List.mem_cons_self) H)
theorem Dz {lv:List bz} (hw:∀r∈lv,P r=true→JC r∈ws):∀{n:Nat} {f:List Str},JH ws h f→JH ws h (qZ P lv n f)
 | 0,_,H=>H
 | n + 1,_,H=>Dz hw (n:=n) (Ln hw H)
theorem Hf {lv:List bz} {x:Str}:∀{n:Nat} {f:List Str},x∈f→x∈qZ P lv n f
 | 0,_,hx=>hx
 | n + 1,_,hx=>Hf (n:=n) (zg hx)
theorem Ss {lv:List bz} (hw:∀w∈ws,∃r∈lv,P r=true∧JC r=w) {a x:Str} {p:List Int} (hp:yE ws a p x):∀{n:Nat} {f:List Str},a∈f→p.length≤n→x∈qZ P lv n f:=by
 induction hp with
 | nil _=>exact fun ha _=>Hf ha
 | cons h1 _ ih=>
  intro n f ha hl;cases n with
  | zero=>exact absurd hl (Nat.not_succ_le_zero _)
  | succ n=>
   obtain ⟨r,hr,hp,e⟩:=hw _ h1;injection e with e1 e2
   injection e2 with e2 e3
   exact ih (n:=n) (by rw [←e3];exact G9 hp hr (by rw [e2];exact ha)) (Nat.le_of_succ_le_succ hl)
end
section
variable {C:Ce} {zs:List Str} {ps:List (Str×Str)} (hN:Names zs) (hP:bQ zs ps) (p8:ps.length≤8) {z a1 b1:Str} {n day:Int} {v1 v3:Option Vl}
include hN hP p8
theorem Hg {v6:Option Vl}:∀(lv:List bz) (f:List Str) (v7:Option Vl),f.length + lv.length≤1000→∃w7,eO (gNm 7) fQ (lv.map bK) [some (.im (.dict (cI (bG ps)))),v1,some (.im (cG z a1 b1 n)),v3,some (.im (.int day)),some (.ow (.list (f.map .str))),v6,v7] C=
  some (.nx,[some (.im (.dict (cI (bG ps)))),v1,some (.im (cG z a1 b1 n)),v3,some (.im (.int day)),some (.ow (.list ((lv.foldl (fU (jZ (up ps z) n day a1 b1)) f).map .str))),v6,w7],C)
 | [],f,v7,_=>⟨v7,rfl⟩
 | r::lv,f,v7,hl=>by
  rw [List.length_cons] at hl;have sl:=G6 (P:=jZ (up ps z) n day a1 b1) f r;obtain ⟨w7,e⟩:=Hg (v6:=v6) lv (fU (jZ (up ps z) n day a1 b1) f r) (some (.im (bK r))) (by omega);refine ⟨w7,?_⟩;have q:=Vp (C:=C) hN hP p8 z a1 b1 n day r;have g:(f.length < 1000000)=True:=eq_true (by omega);rw [List.foldl_cons];rw [←e];rw [List.map_cons];have run:∀f':List Str,fQ [some (.im (.dict (cI (bG ps)))),v1,some (.im (cG z a1 b1 n)),v3,some (.im (.int day)),some (.ow (.list (f.map .str))),v6,some (.im (bK r))] C=some (.nx,[some (.im (.dict (cI (bG ps)))),v1,some (.im (cG z a1 b1 n)),v3,some (.im (.int day)),some (.ow (.list (f'.map .str))),v6,some (.im (bK r))],C)→eO (gNm 7) fQ (bK r::lv.map bK) [some (.im (.dict (cI (bG ps)))),v1,some (.im (cG z a1 b1 n)),v3,some (.im (.int day)),some (.ow (.list (f.map .str))),v6,v7] C=eO (gNm 7) fQ (lv.map bK) [some (.im (.dict (cI (bG ps)))),v1,some (.im (cG z a1 b1 n)),v3,some (.im (.int day)),some (.ow (.list (f'.map .str))),v6,some (.im (bK r))] C:=fun f' h=>by
   rw [eO];simp only [gNm,List.set_cons_succ,List.set_cons_zero,h]
  refine run _ ?_;unfold fU;simp only [bK] at q ⊢;by_cases h1:r.2.1∈f
  ·have d1:=decide_eq_true h1;by_cases h2:r.2.2.1∈f
   ·have d2:=decide_eq_true h2;rw [if_neg (fun c=>c.1.2 h2)];simp_arith [d1,j0,d2]
   ·have d2:=decide_eq_false h2;cases h3:jZ (up ps z) n day a1 b1 r with
    | true=>
     rw [if_pos ⟨⟨h1,h2⟩,rfl⟩];rw [h3] at q;simp_arith [d1,j0,d2,q,lF,jO,g];simp only [List.map_append,List.map_cons,List.map_nil]
    | false=>
     rw [if_neg (fun c=>Bool.false_ne_true c.2)];rw [h3] at q;simp_arith [d1,j0,d2,q]
  ·have d1:=decide_eq_false h1;rw [if_neg (fun c=>h1 c.1.1)];simp_arith [d1]
theorem zj {lv:List bz} (K1:lv.length≤16):∀(its:List PyData) (f:List Str) (v6 v7:Option Vl),f.length + 16 * its.length≤900→∃w6 w7,eO (gNm 6) qY its [some (.im (.dict (cI (bG ps)))),some (.im (.list (lv.map bK))),some (.im (cG z a1 b1 n)),v3,some (.im (.int day)),some (.ow (.list (f.map .str))),v6,v7] C=
  some (.nx,[some (.im (.dict (cI (bG ps)))),some (.im (.list (lv.map bK))),some (.im (cG z a1 b1 n)),v3,some (.im (.int day)),some (.ow (.list ((qZ (jZ (up ps z) n day a1 b1) lv its.length f).map .str))),w6,w7],C)
 | [],f,v6,v7,_=>⟨v6,v7,rfl⟩
 | d::its,f,v6,v7,hl=>by
  rw [List.length_cons] at hl;have fl:=G8 (P:=jZ (up ps z) n day a1 b1) lv f;obtain ⟨u7,e1⟩:=Hg (C:=C) hN hP p8 (z:=z) (a1:=a1) (b1:=b1) (n:=n) (day:=day) (v1:=some (.im (.list (lv.map bK)))) (v3:=v3) (v6:=some (.im d)) lv f v7 (by omega);obtain ⟨w6,w7,e2⟩:=zj K1 its (lv.foldl (fU (jZ (up ps z) n day a1 b1)) f) (some (.im d)) u7 (by omega);refine ⟨w6,w7,?_⟩;rw [List.length_cons,qZ,←e2,eO];simp_arith [gG,e1]
end
theorem Lp {C:Ce} {zs:List Str} {ps ps':List (Str×Str)} {lv:List bz} (hN:Names zs) (hP:bQ zs ps) (hG:dM zs ps ⟨ps',[],lv,[]⟩) (z a1 b1:Str) (n day:Int) (h:Str):
  ∃qs:List Str,jX [.im (.dict (cI (bG ps))),.im (.list (lv.map bK)),.im (cG z a1 b1 n),.im (.str h),.im (.int day)] C=some (.ow (.list (qs.map .str)),C)∧Dy (gY ⟨ps',[],lv,[]⟩ (up ps z) n day a1 b1) (h=a1∨h=b1) h qs:=by
 refine hide fun GG gg=>?_
 have p8:=hG.p8;have K1:lv.length≤16:=hG.K1;have ct:jQ [PyData.str z,.int n,.str a1,.str b1] (some 2) none=[.str a1,.str b1]:=rfl;have ni:fW (.str h) (.tuple [.str a1,.str b1])=some (.im (.bool (!decide (h=a1∨h=b1)))):=by
  have:=yX h a1 b1;unfold j8 at this;unfold fW;cases hh:inB (.str h) (.tuple [.str a1,.str b1]) with
  | none=>rw [hh] at this;cases this
  | some v=>rw [hh] at this;cases this;rfl
 have hwf:∀r∈lv,jZ (up ps z) n day a1 b1 r=true→JC r∈gY ⟨ps',[],lv,[]⟩ (up ps z) n day a1 b1:=fun r hr hp=>List.mem_map.mpr ⟨r,List.mem_filter.mpr ⟨hr,hp⟩,rfl⟩
 have hwb:∀w∈gY ⟨ps',[],lv,[]⟩ (up ps z) n day a1 b1,∃r∈lv,jZ (up ps z) n day a1 b1 r=true∧JC r=w:=fun w hw=>by
  obtain ⟨r,hr,e⟩:=List.mem_map.mp hw;obtain ⟨h1,h2⟩:=List.mem_filter.mp hr;exact ⟨r,h1,h2,e⟩
 have fin:∀(f0:List Str),f0.length≤1→JH (gY ⟨ps',[],lv,[]⟩ (up ps z) n day a1 b1) h f0→(∀x,x∈qZ (jZ (up ps z) n day a1 b1) lv lv.length f0 ↔ ¬(h=a1∨h=b1)∧YC (gY ⟨ps',[],lv,[]⟩ (up ps z) n day a1 b1) h x)→CT (.list [.str h]) (.int (if (!decide (h=a1∨h=b1))=true then 1 else 0))=some (.ow (.list (f0.map .str)))→GG:=fun f0 fl F0 mem mu=>by
  obtain ⟨w6,w7,e1⟩:=zj (C:=C) hN hP p8 (z:=z) (a1:=a1) (b1:=b1) (n:=n) (day:=day) (v3:=some (.im (.str h))) (lv:=lv) K1 (lv.map bK) f0 none none (by rw [List.length_map];omega);rw [List.length_map] at e1;have Fn:=Dz hwf (n:=lv.length) F0;have few:(qZ (jZ (up ps z) n day a1 b1) lv lv.length f0).length < 64:=by
   have:=len_sub (m:=h::lv.map (·.2.2.1)) Fn.1 fun x hx=>by
    obtain ⟨p,hp⟩:=Fn.2 x hx;have:=hp.Dc;generalize p.reverse=p' at this;cases this with
    | nil=>exact List.mem_cons_self
    | cons hw _=>
     obtain ⟨r,hr,_,e⟩:=hwb _ (tY.mp hw);injection e with e1 e2
     injection e2 with e2 e3
     exact List.mem_cons_of_mem _ (List.mem_map.mpr ⟨r,hr,e3⟩)
   rw [List.length_cons,List.length_map] at this;omega
  have so:=N7 _ few;refine gg ⟨_,cD [some (.im (.dict (cI (bG ps)))),some (.im (.list (lv.map bK))),some (.im (cG z a1 b1 n)),some (.im (.str h)),some (.im (.int day)),none,none,none] rfl rfl ?_ rfl rfl,_,Fn.1,mem,rfl⟩;simp_arith [rM,qe,m5,vB,Hj,ct,ni,qK,mu,gG,e1,so]
 by_cases h1:h=a1∨h=b1
 ·have no:∀k,qZ (jZ (up ps z) n day a1 b1) lv k []=[]:=fun k=>by
   induction k with
   | zero=>rfl
   | succ k ih=>
    have:∀l:List bz,l.foldl (fU (jZ (up ps z) n day a1 b1)) []=[]:=fun l=>by
     induction l with
     | nil=>rfl
     | cons r l ih=>rw [List.foldl_cons,show fU (jZ (up ps z) n day a1 b1) [] r=[] from if_neg (fun c=>List.not_mem_nil c.1.1)];exact ih
    rw [qZ,this,ih]
  refine fin [] (Nat.zero_le _) ⟨List.nodup_nil,fun x hx=>absurd hx List.not_mem_nil⟩ (fun x=>by rw [no];exact ⟨fun m=>absurd m List.not_mem_nil,fun m=>absurd h1 m.1⟩) ?_;rw [decide_eq_true h1];rfl
 ·refine fin [h] (Nat.le_refl _) ⟨List.nodup_cons.mpr ⟨List.not_mem_nil,List.nodup_nil⟩,fun x hx=>by rw [List.mem_singleton.mp hx];exact ⟨[],.nil h⟩⟩ (fun x=>⟨fun m=>⟨h1,(Dz hwf (n:=lv.length) (h:=h) (f:=[h]) ⟨List.nodup_cons.mpr ⟨List.not_mem_nil,List.nodup_nil⟩,fun x hx=>by rw [List.mem_singleton.mp hx];exact ⟨[],.nil h⟩⟩).2 x m⟩,fun ⟨_,m⟩=>?_⟩) ?_
  ·have wl:(gY ⟨ps',[],lv,[]⟩ (up ps z) n day a1 b1).length≤lv.length:=by
    unfold gY;rw [List.length_map];exact List.length_filter_le _ _
   have wf:=zc hG (up ps z) n day a1 b1;obtain ⟨st,_,B⟩:=zb (C:=C) (ws:=(gY ⟨ps',[],lv,[]⟩ (up ps z) n day a1 b1).map mG) (s:=h) (by rw [List.length_map];exact wf);obtain ⟨p,hp,pl⟩:=B.Rw m;exact Ss hwb hp (List.mem_singleton.mpr rfl) (Nat.le_trans pl wl)
  ·rw [decide_eq_false h1];rfl
theorem Lq {α:Type} (D:α→PyData) (xs:List α) (lo hi:Option Int):jQ (xs.map D) lo hi=(jQ xs lo hi).map D:=by
 unfold jQ;rw [List.length_map,List.map_take,List.map_drop]
theorem KQ {α:Type} {xs:List α} {lo hi:Option Int} {x:α} (h:x∈jQ xs lo hi):x∈xs:=List.mem_of_mem_drop (List.mem_of_mem_take h)
theorem Lr {α:Type} (xs:List α) (lo hi:Option Int):(jQ xs lo hi).length≤xs.length:=by
 unfold jQ;rw [List.length_take,List.length_drop];omega
abbrev zm (ns:List Int) (v1:Option Vl) (b:Nat) (ps:List (Str×Str)) (v4:Option Vl) (lv:List bz) (v6:Option Vl) (day:Int) (ht:fH) (nv:Vl) (v10 v11 gb rO qP rP:Option Vl):En:=
 [some (.sc ns),v1,some (.ce b),some (.im (.dict (cI (bG ps)))),v4,some (.im (.list (lv.map bK))),v6,some (.im (.int day)),some (.im (dB ht)),some nv,v10,v11,gb,rO,qP,rP]
section
variable {C:Ce} {ns:List Int} {v1 v4 v6 v10:Option Vl} {b:Nat} {zs:List Str} {ps ps':List (Str×Str)} {lv:List bz} (hN:Names zs) (hP:bQ zs ps) (hG:dM zs ps ⟨ps',[],lv,[]⟩) {z a1 b1:Str} {n day:Int} {nv:Vl}
include hN hP hG
theorem Vu (h:Str) (rO qP rP:Option Vl):∃w13 w14,yP (zm ns v1 b ps v4 lv v6 day ⟨ps',[],lv,[]⟩ nv v10 (some (.im (cG z a1 b1 n))) (some (.im (.str h))) rO qP rP) C=some (.nx,zm ns v1 b ps v4 lv v6 day ⟨ps',[],lv,[]⟩ nv v10 (some (.im (cG z a1 b1 n))) (some (.im (.str h))) w13 w14 rP,C):=by
 obtain ⟨qs,e1,S1⟩:=Lp (C:=C) hN hP hG z a1 b1 n day h;obtain ⟨qs',e2,l2,S2⟩:=JG (C:=C) hN hP hG z a1 b1 n day h;have:=S1.unique S2;subst this;have s:=N6 (C:=C) 1 qs (by omega);have g:(qs.length < 1000000)=True:=eq_true (by omega);refine ⟨some (.ow (.list (qs.map .str))),some (.ow (.list (qs.map .str++[.str (Str.ofString "more")]))),?_⟩;simp only [zm];simp_arith [e1,e2,s,lF,jO,g]
theorem Vv {qs:List Str} {h:Str} (S:Dy (gY ⟨ps',[],lv,[]⟩ (up ps z) n day a1 b1) (h=a1∨h=b1) h qs) (s:Str) (qP:Option Vl):yO (zm ns v1 b ps v4 lv v6 day ⟨ps',[],lv,[]⟩ nv v10 (some (.im (cG z a1 b1 n))) (some (.im (.str h))) (some (.ow (.list (qs.map .str)))) qP (some (.im (.str s)))) C=some (.nx,zm ns v1 b ps v4 lv v6 day ⟨ps',[],lv,[]⟩ nv v10 (some (.im (cG z a1 b1 n))) (some (.im (.str h))) (some (.ow (.list (qs.map .str)))) qP (some (.im (.str s))),C):=by
 obtain ⟨o,e1,r1,r2⟩:=Sg (C:=C) hN hP hG z a1 b1 n day h s;have iff:s∈qs ↔ o.isSome=true:=by
  rw [S.mem s];by_cases hs:(h=a1∨h=b1)∨(s=a1∨s=b1)
  ·rw [r1 hs];refine ⟨fun ⟨x,p,hp⟩=>?_,fun x=>nomatch x⟩;have hs:=hs.resolve_left x;have:=hp.Dc;generalize p.reverse=p' at this;cases this with
   | nil=>exact absurd hs x
   | cons hw _=>
    obtain ⟨r,hr,e⟩:=List.mem_map.mp (tY.mp hw);obtain ⟨_,h2⟩:=List.mem_filter.mp hr;injection e with f1 f2
    injection f2 with f2 f3
    unfold jZ at h2;rw [f3,decide_eq_true hs] at h2;simp at h2
  ·have R:=r2 hs;have hn:¬(h=a1∨h=b1):=fun x=>hs (.inl x)
   cases o with
   | none=>exact ⟨fun ⟨_,p,hp⟩=>absurd hp (R p),fun x=>nomatch x⟩
   | some r=>exact ⟨fun _=>rfl,fun _=>⟨hn,r,R.1⟩⟩
 simp only [zm];cases o with
 | none=>
  have d:=decide_eq_false (fun m=>nomatch iff.mp m:¬s∈qs);simp only [R8] at e1;simp_arith [e1,xP,isNone,d]
 | some r=>
  have d:=decide_eq_true (iff.mpr rfl);simp only [R8] at e1;simp_arith [e1,xP,isNone,d]
theorem JK (hs:List Str) (gb rO qP rP:Option Vl):∃w12 w13 w14,eO (gNm 12) yP (hs.map .str) (zm ns v1 b ps v4 lv v6 day ⟨ps',[],lv,[]⟩ nv v10 (some (.im (cG z a1 b1 n))) gb rO qP rP) C=some (.nx,zm ns v1 b ps v4 lv v6 day ⟨ps',[],lv,[]⟩ nv v10 (some (.im (cG z a1 b1 n))) w12 w13 w14 rP,C):=by
 induction hs generalizing gb rO qP with
 | nil=>exact ⟨gb,rO,qP,rfl⟩
 | cons h hs ih=>
  obtain ⟨x13,YF,e⟩:=Vu (C:=C) (ns:=ns) (v1:=v1) (b:=b) (v4:=v4) (v6:=v6) (nv:=nv) (v10:=v10) hN hP hG (z:=z) (a1:=a1) (b1:=b1) (n:=n) (day:=day) h rO qP rP;obtain ⟨w12,w13,w14,e2⟩:=ih (some (.im (.str h))) x13 YF;refine ⟨w12,w13,w14,?_⟩;rw [List.map_cons,eO];simp only [zm,gNm,List.set_cons_succ,List.set_cons_zero] at e e2 ⊢;simp only [e,e2]
theorem JL {qs:List Str} {h:Str} (S:Dy (gY ⟨ps',[],lv,[]⟩ (up ps z) n day a1 b1) (h=a1∨h=b1) h qs) (ss:List Str) (qP rP:Option Vl):∃w15,eO (gNm 15) yO (ss.map .str) (zm ns v1 b ps v4 lv v6 day ⟨ps',[],lv,[]⟩ nv v10 (some (.im (cG z a1 b1 n))) (some (.im (.str h))) (some (.ow (.list (qs.map .str)))) qP rP) C=some (.nx,zm ns v1 b ps v4 lv v6 day ⟨ps',[],lv,[]⟩ nv v10 (some (.im (cG z a1 b1 n))) (some (.im (.str h))) (some (.ow (.list (qs.map .str)))) qP w15,C):=by
 induction ss generalizing rP with
 | nil=>exact ⟨rP,rfl⟩
 | cons s ss ih=>
  have e:=Vv (C:=C) (ns:=ns) (v1:=v1) (b:=b) (v4:=v4) (v6:=v6) (nv:=nv) (v10:=v10) hN hP hG S s qP;obtain ⟨w15,e2⟩:=ih (some (.im (.str s)));refine ⟨w15,?_⟩;rw [List.map_cons,eO];simp only [zm,gNm,List.set_cons_succ,List.set_cons_zero] at e e2 ⊢;simp only [e,e2]
end
theorem Vw {C:Ce} {ns:List Int} {v1 v4:Option Vl} {b L j:Nat} {zs pe:List Str} {ps ps':List (Str×Str)} {lv:List bz} {z a1 b1:Str} {n day tn:Int} {nv:Vl} {ev:List Str} (hB:Bl L C b (j + 6)) (hN:Names zs) (hP:bQ zs ps) (p0:0 < ps.length) (hG:dM zs ps ⟨ps',[],lv,[]⟩) (V5:0 < ev.length) (ev1:ev.length≤20) (hv:nv=.ow (.list (ev.map .str))∨nv=.im (.list (ev.map .str))) (v11 gb rO qP rP:Option Vl):
  ∃(C':Ce) (w11 w12 w13 w14 w15:Option Vl),mK (zm ns v1 b ps v4 lv (some (.im (cG z a1 b1 n))) day ⟨ps',[],lv,[]⟩ nv (some (.im (.int tn))) v11 gb rO qP rP) C=some (.nx,zm ns v1 b ps v4 lv (some (.im (cG z a1 b1 n))) day ⟨ps',[],lv,[]⟩ (.im (.list (ev.map .str))) (some (.im (.int tn))) w11 w12 w13 w14 w15,C')∧Bl L C' b j:=by
 refine hide fun GG gg=>?_
 have p8:=hG.p8;obtain ⟨qs,qp,so⟩:=nG ps (by omega);have ln:=u6 ps;obtain ⟨t1,C1,e1,a1',b1',wC⟩:=aX (m:=(ps.length:Int)) (k:=j + 5) hB (by omega) (by omega);obtain ⟨y,my,_,xy⟩:=dN (zs:=qs) a1' (by rw [qp.length_eq,List.length_map];exact b1');obtain ⟨n2,C2,e2,_,_,hB2⟩:=JF (j:=j + 1) wC;obtain ⟨t3,C3,e3,a3,b3,hB3⟩:=aX (m:=(ev.length:Int)) (k:=j) hB2 (by omega) (by omega);obtain ⟨h,mh,_,xh⟩:=dN (zs:=ev) a3 b3;have ct:jQ [PyData.str z,.int n,.str a1,.str b1] (some 2) none=[.str a1,.str b1]:=rfl;have t22:∀a b c d:PyData,aY (.tuple [a,b]) (.tuple [c,d])=some (.im (.tuple [a,b,c,d])):=fun _ _ _ _=>K5 (Nat.le_of_ble_eq_true rfl)
 have c1:=Lq PyData.str ev none (some 9);have c2:=Lq PyData.str ev (some (-1)) none;have l1:=Lr ev none (some 9);have l2:=Lr ev (some (-1)) none;generalize jQ ev none (some 9)=h1 at c1 l1;generalize jQ ev (some (-1)) none=h2 at c2 l2;have ad:aY (.list (h1.map .str)) (.list (h2.map .str))=some (.ow (.list ((h1++h2).map .str))):=by
  rw [List.map_append];exact add_l (by rw [List.length_map,List.length_map];omega)
 generalize h1++h2=hs at ad;have fin:∀(z':Str) (n':Int),(∀R:FS,fSeq (fSet 11 (BP (fTst (aH mZ (aG 10) (aq (fCst (.int 0))))) (fVar 6) (fVar 11))) R (zm ns v1 b ps v4 lv (some (.im (cG z a1 b1 n))) day ⟨ps',[],lv,[]⟩ nv (some (.im (.int tn))) (some (.im (cG y a1 b1 n2))) gb rO qP rP) C2=R (zm ns v1 b ps v4 lv (some (.im (cG z a1 b1 n))) day ⟨ps',[],lv,[]⟩ nv (some (.im (.int tn))) (some (.im (cG z' a1 b1 n'))) gb rO qP rP) C2)→GG:=fun z' n' e4=>by
  obtain ⟨x12,x13,YF,e5⟩:=JK (C:=C2) (ns:=ns) (v1:=v1) (b:=b) (v4:=v4) (v6:=some (.im (cG z a1 b1 n))) (nv:=nv) (v10:=some (.im (.int tn))) hN hP hG (z:=z') (a1:=a1) (b1:=b1) (n:=n') (day:=day) hs gb rO qP rP;obtain ⟨rs,e6,S⟩:=Lp (C:=C3) hN hP hG z' a1 b1 n' day h;obtain ⟨x15,e7⟩:=JL (C:=C3) (ns:=ns) (v1:=v1) (b:=b) (v4:=v4) (v6:=some (.im (cG z a1 b1 n))) (nv:=.im (.list (ev.map .str))) (v10:=some (.im (.int tn))) hN hP hG S ev YF rP;refine gg ⟨C3,some (.im (cG z' a1 b1 n')),some (.im (.str h)),some (.ow (.list (rs.map .str))),YF,x15,?_,hB3⟩;simp only [zm] at e4 e5 e7 ⊢;rcases hv with rfl | rfl
  ·simp_arith [mK,so,ln,e1,xy,e2,qe,m5,vB,Hj,ct,t22,↓e4,c1,c2,ad,gG,e5,e3,xh,e6,e7]
  ·simp_arith [mK,so,ln,e1,xy,e2,qe,m5,vB,Hj,ct,t22,↓e4,c1,c2,ad,gG,e5,e3,xh,e6,e7]
 by_cases h0:tn=0
 ·have hd:(tn==0)=true:=beq_iff_eq.mpr h0;exact fin z n fun R=>by simp only [zm];simp_arith [hd]
 ·have hd:(tn==0)=false:=beq_eq_false_iff_ne.mpr h0;exact fin y n2 fun R=>by simp only [zm];simp_arith [hd]
theorem Su (ns:List Int) (h:ns.length≤63):∃C',Am [.sc ns] []=some (.im (.bool true),C'):=by
 obtain ⟨m,hm,m1,m2⟩:∃m:Int,(1 + if (ns.length:Int) < 6 then (ns.length:Int) else 6)=m∧0≤m∧m≤7:=⟨_,rfl,by split <;> omega,by split <;> omega⟩
 obtain ⟨env',C',e,he⟩:=iI (g:=gNm 1) (body:=yQ) (its:=ju 0 m.toNat) (env:=[some (.sc ns),none,none,none,none,none,none,none,none,none,none,none,none,none,none,none]) (C:=[])
  (fun i env C1=>∃v1 v2 v3 v4 v5 v6 v7 v8 v9 v10 v11 gb rO qP rP,env=[some (.sc ns),v1,v2,v3,v4,v5,v6,v7,v8,v9,v10,v11,gb,rO,qP,rP]) ⟨_,_,_,_,_,_,_,_,_,_,_,_,_,_,_,rfl⟩ (fun i d env C1 hd hI=>by
   obtain ⟨v1,v2,v3,v4,v5,v6,v7,v8,v9,v10,v11,gb,rO,qP,rP,rfl⟩:=hI;obtain ⟨rfl,hi⟩:=qg hd;refine hide fun GG gg=>?_
   obtain ⟨x,y,hb,x0⟩:=RT (C:=C1) (ns:=ns) (k:=0 + (i:Int)) (by omega) (by omega);have hB:=Ym (y:=y) C1 x0;obtain ⟨zs,ps,pe,lv,z,a1,b1,n,day,C2,e2,K,hB2⟩:=Vs (most:=16) (j:=799540) hB (by decide) (by decide);obtain ⟨ps',p1,e3⟩:=GZ (C:=C2) K.p0 K.p8 lv;have hG:dM zs ps ⟨ps',[],lv,[]⟩:=Yt p1 K.p8 K.K1 (fun r h=>(K.leaves r h).1) (K.rise.imp fun h=>Int.ne_of_lt h);have ad:aY (.list (pe.map .str)) (.list [.str a1])=some (.ow (.list ((pe++[a1]).map .str))):=by
    rw [List.map_append];exact add_l (by rw [List.length_map];show _ + 1≤_;have:=K.few;omega)
   have evl:(pe++[a1]).length=pe.length + 1:=by rw [List.length_append];rfl
   have kt:=K.two;have kf:=K.few;generalize pe++[a1]=ev at ad evl;obtain ⟨aaa,C3,e4,nv,x10,x11,x12,x13,YF,x15,hv,he2,hB3⟩:=iI (g:=gNm 10) (body:=mK) (its:=ju 0 3) (env:=zm ns (some (.im (.int (0 + (i:Int))))) C1.length ps (some (.im (.list (pe.map .str)))) lv (some (.im (cG z a1 b1 n))) day ⟨ps',[],lv,[]⟩ (.ow (.list (ev.map .str))) v10 v11 gb rO qP rP) (C:=C2)
    (fun t env C2=>∃nv v10 v11 gb rO qP rP,(nv=.ow (.list (ev.map .str))∨nv=.im (.list (ev.map .str)))∧env=zm ns (some (.im (.int (0 + (i:Int))))) C1.length ps (some (.im (.list (pe.map .str)))) lv (some (.im (cG z a1 b1 n))) day ⟨ps',[],lv,[]⟩ nv v10 v11 gb rO qP rP∧Bl (C1.length + 1) C2 C1.length (799500 + 6 * (3 - t)))
    ⟨_,_,_,_,_,_,_,.inl rfl,rfl,hB2.mono (by decide)⟩ (fun t d env C4 hd hI=>by
     obtain ⟨nv,v10,v11,gb,rO,qP,rP,hv,rfl,hB⟩:=hI;obtain ⟨rfl,ht⟩:=qg hd;rw [K6 799500 6 ht] at hB;obtain ⟨C5,w11,w12,w13,w14,w15,e,Yv⟩:=Vw (ns:=ns) (v1:=some (.im (.int (0 + (i:Int))))) (v4:=some (.im (.list (pe.map .str)))) (z:=z) (a1:=a1) (b1:=b1) (n:=n) (day:=day) (tn:=0 + (t:Int)) (pe:=pe) hB K.names K.parts K.p0 hG (by omega) (by omega) hv v11 gb rO qP rP;exact ⟨_,.nx,_,C5,rfl,e,.inl rfl,_,_,_,_,_,_,_,.inr rfl,rfl,Yv⟩)
   subst he2;refine gg ⟨_,.nx,zm ns (some (.im (.int (0 + (i:Int))))) C1.length ps (some (.im (.list (pe.map .str)))) lv (some (.im (cG z a1 b1 n))) day ⟨ps',[],lv,[]⟩ nv x10 x11 x12 x13 YF x15,C3,rfl,?_,.inl rfl,_,_,_,_,_,_,_,_,_,_,_,_,_,_,_,rfl⟩;have e4:eO (gNm 10) mK (ju 0 (Int.toNat 3)) _ _=_:=e4;simp only [zm] at e4 ⊢;simp_arith [yQ,QH,hb,intsOf,e2,e3,Vo,ad,gG,vM,Gr (m:=3) (by omega) (by omega),e4])
 refine ⟨C'.take 0,?_⟩;unfold Am fN;rw [if_pos (show [Vl.sc ns].length=1 from rfl),show ([Vl.sc ns].map some++List.replicate (16 - [Vl.sc ns].length) none)=[some (.sc ns),none,none,none,none,none,none,none,none,none,none,none,none,none,none,none] from rfl];simp_arith [RK,gG,vM,vz,lG,hm,Gr (m:=m) (by omega) (by omega),e,z9]
theorem all_mk {l:PySem.W.OpenLaw} {w:World} {K:PySem.W.Frag} {h:Heap} {mg:Str→Option Value} {fa:Addr} (X:K.In h) (G:h.Ns mainGlobals mg) (hfa:mg "law"=some (.ref fa))
  (d0:cW K "parts_over" jw)
  (d1:cW K "row_of" yG)
  (d2:cW K "signers_of" jx)
  (d3:cW K "is_side" uU)
  (d4:cW K "ways_on" qj)
  (d5:cW K "first_row" pB)
  (d6:cW K "nearer_way" jy)
  (d7:cW K "steps_to" m6)
  (d8:cW K "_law_mix" Jv)
  (d9:cW K "_law_drawn_from" lH)
  (d10:cW K "_law_pick" Dd)
  (d11:cW K "_law_same" uc)
  (d12:cW K "_law_some_names" cQ)
  (d13:cW K "_law_two_days" pD)
  (d14:cW K "_law_some_sum" pF)
  (d15:cW K "_law_some_parts" lJ)
  (d16:cW K "_law_parts_over" lK)
  (d17:cW K "_law_rising" uV)
  (d18:cW K "_law_some_leaves" jV)
  (d19:cW K "_law_house_of" pG)
  (d20:cW K "_law_case" Dg)
  (d21:cW K "_law_lets" Dh)
  (d22:cW K "_law_come_to" rJ)
  (d23:cW K "law" RB)
  (Ld:PySem.W.nsIn K mainGlobals "abs"=some none)
  (RC:PySem.W.nsIn K mainGlobals "all"=some none)
  (yI:PySem.W.nsIn K mainGlobals "bool"=some none)
  (pH:PySem.W.nsIn K mainGlobals "enumerate"=some none)
  (yJ:PySem.W.nsIn K mainGlobals "int"=some none)
  (bN:PySem.W.nsIn K mainGlobals "isinstance"=some none)
  (jg:PySem.W.nsIn K mainGlobals "len"=some none)
  (yK:PySem.W.nsIn K mainGlobals "list"=some none)
  (RG:PySem.W.nsIn K mainGlobals "max"=some none)
  (yL:PySem.W.nsIn K mainGlobals "min"=some none)
  (fX:PySem.W.nsIn K mainGlobals "range"=some none)
  (gQ:PySem.W.nsIn K mainGlobals "sorted"=some none)
  (GF:PySem.W.nsIn K mainGlobals "str"=some none)
  (m8:PySem.W.nsIn K mainGlobals "tuple"=some none)
  (RJ:PySem.W.nsIn K mainGlobals "zip"=some none)
  :∃fd:FuncData,(∀(s:Shared) (v:Value),BindsTo s fd ⟨[v],[]⟩ [("_law_script",v)])∧∀base:Heap,K.In base→base.Ns mainGlobals mg→cZ l.prog w K mg base oh 6 fa fd ["_law_script"] (spT K Am):=by
 have T:Txt K mg:=⟨PySem.W.mg_none_of X G Ld,PySem.W.mg_none_of X G RC,PySem.W.mg_none_of X G yI,PySem.W.mg_none_of X G pH,PySem.W.mg_none_of X G yJ,PySem.W.mg_none_of X G bN,PySem.W.mg_none_of X G jg,PySem.W.mg_none_of X G yK,PySem.W.mg_none_of X G RG,PySem.W.mg_none_of X G yL,PySem.W.mg_none_of X G fX,PySem.W.mg_none_of X G gQ,PySem.W.mg_none_of X G GF,PySem.W.mg_none_of X G m8,PySem.W.mg_none_of X G RJ⟩
 refine d23.law X G hfa (fun base f fd F=>?_) (fun _ _ _ _ _ _=>(gj fun _=>(wj rfl)));have nC:=d0.has X G (fun f fd F=>zG (P:=l.prog) (w:=w) (base:=base) F T) (fun _ _ _ _ _ _=>(gj fun _=>(gj fun _=>(wj rfl))));have dF:=d3.has X G (fun f fd F=>Jx (P:=l.prog) (w:=w) (base:=base) F T) (fun _ _ _ _ _ _=>(gj fun _=>(gj fun _=>(wj rfl))));have jF:=d4.has X G (fun f fd F=>Jy (P:=l.prog) (w:=w) (base:=base) F T nC dF) (fun _ _ _ _ _ _=>(gj fun _=>(gj fun _=>(gj fun _=>(wj rfl)))));have iT:=d7.has X G (fun f fd F=>GJ (P:=l.prog) (w:=w) (base:=base) F T) (fun _ _ _ _ _ _=>(gj fun _=>(gj fun _=>(wj rfl))));have nD:=d6.has X G (fun f fd F=>zH (P:=l.prog) (w:=w) (base:=base) F T) (fun _ _ _ _ _ _=>(gj fun _=>(gj fun _=>(gj fun _=>(wj rfl)))));have pO:=d5.has X G (fun f fd F=>Dk (P:=l.prog) (w:=w) (base:=base) F T iT nD) (fun _ _ _ _ _ _=>(gj fun _=>(gj fun _=>(gj fun _=>(wj rfl)))));have yW:=d1.has X G (fun f fd F=>Ny (P:=l.prog) (w:=w) (base:=base) F T dF jF pO) (fun _ _ _ _ _ _=>(gj fun _=>(gj fun _=>(gj fun _=>(gj fun _=>(gj fun _=>(wj rfl)))))));have jC:=d2.has X G (fun f fd F=>zJ (P:=l.prog) (w:=w) (base:=base) F T dF jF iT) (fun _ _ _ _ _ _=>(gj fun _=>(gj fun _=>(gj fun _=>(gj fun _=>(wj rfl))))));have Dl:=d8.has X G (fun f fd F=>Vj (P:=l.prog) (w:=w) (base:=base) F T) (fun _ _ _ _ _ _=>(gj fun _=>(gj fun _=>(wj rfl))));have lU:=d9.has X G (fun f fd F=>yR (P:=l.prog) (w:=w) (base:=base) F T) (fun _ _ _ _ _ _=>(gj fun _=>(gj fun _=>(wj rfl))));have aL:=d10.has X G (fun f fd F=>RL (P:=l.prog) (w:=w) (base:=base) F T Dl) (fun _ _ _ _ _ _=>(gj fun _=>(gj fun _=>(wj rfl))));have qu:=d11.abS X G (fun f fd hm hk hb F=>An (P:=l.prog) (w:=w) (base:=base) hm hk hb F T 3) (fun _ _ _ _ _ _=>(gj fun _=>(gj fun _=>(wj rfl))));have lQ:=d12.has X G (fun f fd F=>yS (P:=l.prog) (w:=w) (base:=base) F T aL) (fun _ _ _ _ _ _=>(gj fun _=>(gj fun _=>(wj rfl))));have gm:=d13.has X G (fun f fd F=>Dm (P:=l.prog) (w:=w) (base:=base) F T aL) (fun _ _ _ _ _ _=>(gj fun _=>(wj rfl)));have dg:=d14.has X G (fun f fd F=>Dp (P:=l.prog) (w:=w) (base:=base) F T aL) (fun _ _ _ _ _ _=>(gj fun _=>(wj rfl)));have lR:=d15.has X G (fun f fd F=>yU (P:=l.prog) (w:=w) (base:=base) F T aL) (fun _ _ _ _ _ _=>(gj fun _=>(gj fun _=>(wj rfl))));have dW:=d16.has X G (fun f fd F=>yV (P:=l.prog) (w:=w) (base:=base) F T) (fun _ _ _ _ _ _=>(gj fun _=>(gj fun _=>(wj rfl))));have uZ:=d17.has X G (fun f fd F=>Jz (P:=l.prog) (w:=w) (base:=base) F T aL) (fun _ _ _ _ _ _=>(gj fun _=>(gj fun _=>(wj rfl))));have jY:=d18.has X G (fun f fd F=>vO (P:=l.prog) (w:=w) (base:=base) F T aL gm dg dW uZ) (fun _ _ _ _ _ _=>(gj fun _=>(gj fun _=>(gj fun _=>(gj fun _=>(gj fun _=>(gj fun _=>(wj rfl))))))));have pP:=d19.has X G (fun f fd F=>Dq (P:=l.prog) (w:=w) (base:=base) F T) (fun _ _ _ _ _ _=>(gj fun _=>(gj fun _=>(wj rfl))));have Ds:=d20.has X G (fun f fd F=>RN (P:=l.prog) (w:=w) (base:=base) F T aL lQ gm dg lR jY) (fun _ _ _ _ _ _=>(gj fun _=>(gj fun _=>(wj rfl))));have Dr:=d21.has X G (fun f fd F=>RP (P:=l.prog) (w:=w) (base:=base) F T dW) (fun _ _ _ _ _ _=>(gj fun _=>(gj fun _=>(gj fun _=>(gj fun _=>(wj rfl))))));have nF:=d22.has X G (fun f fd F=>GK (P:=l.prog) (w:=w) (base:=base) F T Dr) (fun _ _ _ _ _ _=>(gj fun _=>(gj fun _=>(gj fun _=>(gj fun _=>(gj fun _=>(wj rfl)))))));exact Yn F T yW jC lU aL qu dg pP Ds nF
theorem walk {l:PySem.W.OpenLaw} {q:Program} {loose:List Str} {XP:(Str→Option Value)→Heap→Prop} {YP:World→Heap→Prop} {d:DefRec} {K:Params→PySem.W.Frag} (hn:l.most=some 63) (hdf:d.params.defaults=[])
  (hY:∀(w:World) (h:Heap),YP w h→(K w.params).In h)
  (F:∀(w:World) (mg:Str→Option Value) (fa:Addr) (h:Heap),(K w.params).In h→h.Ns mainGlobals mg→mg d.name=some (.ref fa)→
   ∃fd:FuncData,(∀(s:Shared) (u:Value),BindsTo s fd ⟨[u],[]⟩ [("_law_script",u)])∧∀base:Heap,(K w.params).In base→base.Ns mainGlobals mg→cZ l.prog w (K w.params) mg base oh 6 fa fd ["_law_script"] (spT (K w.params) Am)):
  PySem.W.WalkO q loose XP YP l.row.toRowW d [] (fun f vs=>PySem.call f vs):=
 L2.TJ (n:=63) (k:=6) (x:="_law_script") (CX:=fun _=>oh) (sp:=fun w=>spT (K w.params) Am) hn (by decide) hdf ⟨rfl,by decide,by decide,rfl⟩ hY F (fun _ _ a ns hl _ hS=>let ⟨_,h⟩:=Su ns hl;XR hS h) fun _ _ _ _ _ z=>z
end K17
namespace PySem.W.Fast
def tw10117235535957457343:=0
def tw10921625498123585211:=0
def tw11010526597006467920:=0
def tw11184686448142254632:=0
def tw11226719932797300861:=0
def tw11976890551072492744:=0
def tw12397622571120470791:=0
def tw12479801227985071672:=0
def tw1255977180087214178:=0
def tw13016236208738068480:=0
def tw13863908205569550287:=0
def tw13913203470882146423:=0
def tw14005559562925876746:=0
def tw14139528845546624141:=0
def tw14336409592015453155:=0
def tw14468538300779757580:=0
def tw14551921355580333413:=0
def tw14712569602490451673:=0
def tw14919854128662187772:=0
def tw15031575475166761146:=0
def tw15460343011002487107:=0
def tw15483599888634498825:=0
def tw15612261233000977049:=0
def tw15618913457930407807:=0
def tw1579014366733825420:=0
def tw16598283771768070870:=0
def tw16906823817380712419:=0
def tw17077499131449926605:=0
def tw17347107859897807260:=0
def tw17475944650978681826:=0
def tw17679121538033027481:=0
def tw17719357599318265135:=0
def tw181860399442123915:=0
def tw18190535409014044728:=0
def tw18214807871035282545:=0
def tw3124682019542224272:=0
def tw3508865537221346721:=0
def tw3761489224602240481:=0
def tw3798532084478878149:=0
def tw3942375122248737304:=0
def tw4238656169105853744:=0
def tw5676983867228790355:=0
def tw5993702995376499492:=0
def tw6466966453498107317:=0
def tw6736610939328633302:=0
def tw7192059779938207916:=0
def tw8156323568091901544:=0
def tw9055677130436407126:=0
def tw9575197838873721615:=0
end PySem.W.Fast
open PySem PySem.W PyProof.Rows
set_option maxRecDepth 100000 in
set_option maxHeartbeats 0 in
theorem PySem.Challenge.cw_rankseals_k17_signers_holds : PySem.Challenge.rw_rankseals_k17_signers.Holds := by
 w_on;o_law;k_head;(case hw=>w_witness2)
 k_fill
 refine K17.walk (l:=PySem.Challenge.rw_rankseals_k17_signers) rfl rfl (fun w h Y=>PySem.W.kIn_of Y) ?F
 case F=>
  intro w mg fa h KX G hmg
  refine' K17.all_mk KX G hmg ?_ ?_ ?_ ?_ ?_ ?_ ?_ ?_ ?_ ?_ ?_ ?_ ?_ ?_ ?_ ?_ ?_ ?_ ?_ ?_ ?_ ?_ ?_ ?_ ?_ ?_ ?_ ?_ ?_ ?_ ?_ ?_ ?_ ?_ ?_ ?_ ?_ ?_ ?_
  all_goals first | exact .mk (by k_is) (by k_is) (by k_is) (by k_is) | k_is
