import PyProof.Rows.All
import Wide.All
import OpenK.AllK
import Wide.FinOn
import Lean
import PyProof.EqAt
import PyProof.EqKinds
import PyProof.TupleCall
import PySem.Challenge.RW_rankseals_k02_what_a_house_is
set_option Elab.async false
set_option linter.all false
set_option maxRecDepth 100000
namespace L2
open PySem PySem.Spec PyProof.Rows

/-- a key: an int or a str -/
abbrev Key := Sum Int Str
def keyIs : Key → Value → Bool
  | .inl k, v => Value.isInt k v
  | .inr x, v => Value.isStrOf x v
def keyH (w : World) : Key → Int
  | .inl k => hashInt k
  | .inr x => hashStr w x
theorem keyIs_shape : ∀ {k : Key} {v : Value}, keyIs k v = true → (∃ i t, k = Sum.inl i ∧ v = Value.int i t) ∨ (∃ x t, k = Sum.inr x ∧ v = Value.str x t)
  | .inl i, v, h => by
    obtain ⟨t, e⟩ := Value.isInt_shape (k := i) (v := v) h
    exact .inl ⟨i, t, rfl, e⟩
  | .inr x, v, h => by
    obtain ⟨t, e⟩ := Value.isStrOf_shape (x := x) (v := v) h
    exact .inr ⟨x, t, rfl, e⟩
theorem keyIs_int (i : Int) (t : Tok) : keyIs (.inl i) (.int i t) = true := by simp [keyIs, Value.isInt]
theorem keyIs_str (x : Str) (t : Tok) : keyIs (.inr x) (.str x t) = true := by simp [keyIs, Value.isStrOf]
theorem key_ll (a b : Int) : decide ((Sum.inl a : Key) = Sum.inl b) = (a == b) := by
  by_cases e : a = b
  · subst e; simp
  · have h : ¬ (Sum.inl a : Key) = Sum.inl b := fun q => e (Sum.inl.inj q)
    rw [decide_eq_false h]
    exact (beq_eq_false_iff_ne.mpr e).symm
theorem key_rr (a b : Str) : decide ((Sum.inr a : Key) = Sum.inr b) = decide (a = b) := by
  by_cases e : a = b
  · subst e; simp
  · have h : ¬ (Sum.inr a : Key) = Sum.inr b := fun q => e (Sum.inr.inj q)
    rw [decide_eq_false h, decide_eq_false e]
theorem key_lr (a : Int) (b : Str) : decide ((Sum.inl a : Key) = Sum.inr b) = false := decide_eq_false (fun q => nomatch q)
theorem key_rl (a : Str) (b : Int) : decide ((Sum.inr a : Key) = Sum.inl b) = false := decide_eq_false (fun q => nomatch q)

def mixKind (prog : Program) (w : World) : PySem.KeyKind prog w Key where
  is := keyIs
  hash := keyH w
  inj := fun v a b ha hb => by
    rcases keyIs_shape ha with ⟨i, t, rfl, rfl⟩ | ⟨x, t, rfl, rfl⟩
    · rcases keyIs_shape hb with ⟨j, u, rfl, e⟩ | ⟨y, u, rfl, e⟩
      · injection e with e1 _; rw [e1]
      · exact nomatch e
    · rcases keyIs_shape hb with ⟨j, u, rfl, e⟩ | ⟨y, u, rfl, e⟩
      · exact nomatch e
      · injection e with e1 _; rw [e1]
  byValue := fun k v h => by
    rcases keyIs_shape h with ⟨i, t, rfl, rfl⟩ | ⟨x, t, rfl, rfl⟩ <;> rfl
  pyHash := fun hv h => by
    rcases keyIs_shape hv with ⟨i, t, rfl, rfl⟩ | ⟨x, t, rfl, rfl⟩
    · exact wpAny_pyHash_int h
    · exact wpAny_pyHash_str h
  eqBool := fun hu hv h => by
    rcases keyIs_shape hu with ⟨i, t, rfl, rfl⟩ | ⟨x, t, rfl, rfl⟩
    · rcases keyIs_shape hv with ⟨j, u, rfl, rfl⟩ | ⟨y, u, rfl, rfl⟩
      · rw [key_ll] at h; exact wpAny_eqBool_int h
      · rw [key_lr] at h; exact SeqAt.EqAt.int_str i t y u _ _ _ _ h
    · rcases keyIs_shape hv with ⟨j, u, rfl, rfl⟩ | ⟨y, u, rfl, rfl⟩
      · rw [key_rl] at h; exact SeqAt.EqAt.str_int x t j u _ _ _ _ h
      · rw [key_rr] at h; exact wpAny_eqBool_str h
  «strs» := fun k x t v h => by
    rcases keyIs_shape h with ⟨i, u, rfl, e⟩ | ⟨y, u, rfl, e⟩
    · exact nomatch e
    · injection e with e1 _
      subst e1
      cases v <;> rfl

theorem mixKind_int (prog : Program) (w : World) (i : Int) (t : Tok) : (mixKind prog w).is (.inl i) (.int i t) = true := keyIs_int i t
theorem mixKind_str (prog : Program) (w : World) (x : Str) (t : Tok) : (mixKind prog w).is (.inr x) (.str x t) = true := keyIs_str x t
end L2

namespace L2
open PySem PySem.Spec PyProof.Rows

/-- a value, without the heap -/
inductive V where
  | non | bl (b : Bool) | int (i : Int) | str (x : Str) | byt (b : Array UInt8) | flt (b : UInt64) | ref (a : Addr) | ty (n : String)
  deriving DecidableEq

def RelV : V → Value → Prop
  | .non, u => u = Value.none
  | .bl b, u => u = Value.bool b
  | .int i, u => ∃ t, u = Value.int i t
  | .str x, u => ∃ t, u = Value.str x t
  | .byt b, u => ∃ t, u = Value.bytes b t
  | .flt b, u => ∃ t, u = Value.float b t
  | .ref a, u => u = Value.ref a
  | .ty n, u => u = Value.type n

abbrev Vals : List V → List Value → Prop := Paired RelV
theorem Vals.length {xs : List V} {us : List Value} (r : Vals xs us) : xs.length = us.length := Paired.length r
theorem Vals.get : ∀ {xs : List V} {us : List Value} {i : Nat} {x : V}, Vals xs us → xs[i]? = some x → ∃ u, us[i]? = some u ∧ RelV x u
  | _, _, _, _, .nil, e => by simp at e
  | _, _, 0, _, .cons r _, e => by simp at e; subst e; exact ⟨_, rfl, r⟩
  | _, _, i + 1, x, .cons _ t, e => by
    obtain ⟨u, h1, h2⟩ := Vals.get (i := i) (x := x) t (by simpa using e)
    exact ⟨u, by simpa using h1, h2⟩
theorem Vals.set {x : V} {u : Value} (r : RelV x u) : ∀ {xs : List V} {us : List Value} (i : Nat), Vals xs us → Vals (xs.set i x) (us.set i u)
  | _, _, _, .nil => .nil
  | _, _, 0, .cons _ t => .cons r t
  | _, _, i + 1, .cons q t => .cons q (Vals.set r i t)
theorem Vals.append : ∀ {xs ys : List V} {us ws : List Value}, Vals xs us → Vals ys ws → Vals (xs ++ ys) (us ++ ws)
  | _, _, _, _, .nil, s => s
  | _, _, _, _, .cons r t, s => .cons r (Vals.append t s)
theorem Vals.take : ∀ {xs : List V} {us : List Value} (n : Nat), Vals xs us → Vals (xs.take n) (us.take n)
  | _, _, 0, _ => .nil
  | _, _, _ + 1, .nil => .nil
  | _, _, n + 1, .cons r t => .cons r (Vals.take n t)
theorem Vals.drop : ∀ {xs : List V} {us : List Value} (n : Nat), Vals xs us → Vals (xs.drop n) (us.drop n)
  | _, _, 0, r => r
  | _, _, _ + 1, .nil => .nil
  | _, _, n + 1, .cons _ t => Vals.drop n t

def RelO : Option V → Option Value → Prop
  | some v, some u => RelV v u
  | none, none => True
  | _, _ => False
def KV {κ : Type} : List (κ × V) → List (κ × Value) → Prop := Paired fun (p : κ × V) (q : κ × Value) => p.1 = q.1 ∧ RelV p.2 q.2

/-- a key of a dict (00_mix): an int or a text -/
def kV : Key → V
  | .inl i => .int i
  | .inr x => .str x

/-- what stands at a tracked address -/
inductive HO where
  /-- a list -/
  | lst (xs : List V)
  /-- a tuple (never changes) -/
  | tup (xs : List V)
  /-- a dict whose keys are ints and texts; one whose keys are tuples of ints and texts (the empty one is both) -/
  | dK (kvs : List (Key × V)) | dT (kvs : List (List Key × V))
  /-- a set of ints: its members, its size -/
  | set (S : Int → Bool) (n : Nat)
  /-- an instance of the class at C, its dict at dx, its attributes -/
  | ins (C dx : Addr) (fs : List (Str × V))
  /-- the dict of the instance at x -/
  | own (x : Addr)
  /-- the dict of an exception -/
  | xd (fs : List (Str × V))
  /-- a bound method, f of x -/
  | met (f x : Addr)
  /-- a range object lo, lo + 1, .. below hi -/
  | rng (lo hi : Int)
  /-- a thing that is known to the object (the script; a dict while a loop walks it): read, never written while it is so -/
  | frz (o : Obj) (u : HO)
  /-- a code object's table -/
  | tbl (ps : Array Value)
  /-- any other thing, by what is true of its one object (a def of one's own: SetO a S n := HO.ext fun h => ..) -/
  | ext (φ : Heap → Prop)

abbrev Hp := Addr → Option HO
def upd (H : Hp) (a : Addr) (o : HO) : Hp := fun b => if b = a then some o else H b
theorem upd_same {H : Hp} {a : Addr} {o : HO} : upd H a o a = some o := by unfold upd; rw [if_pos rfl]
theorem upd_ne {H : Hp} {a b : Addr} {o : HO} (h : b ≠ a) : upd H a o b = H b := by unfold upd; rw [if_neg h]
/-- two objects of different content stand apart -/
theorem ne_of {H : Hp} {a b : Addr} {o u : HO} (h : H a = some o) (h' : H b = some u) (d : o ≠ u) : a ≠ b := by
  intro e; subst e; rw [h] at h'; exact d (Option.some.inj h')
theorem ne_of_none {H : Hp} {a b : Addr} {o : HO} (h : H a = some o) (h' : H b = none) : a ≠ b := by
  intro e; subst e; rw [h] at h'; cases h'

section
variable (P : Program) (w : World)
def ObjOk (H : Hp) (h : Heap) (a : Addr) : HO → Prop
  | .lst xs => xs.length ≤ sizeLine ∧ ∃ (its : List Value) (n : Nat), Vals xs its ∧ h.get? a = some { cls := .type "list", data := .seq its.toArray n }
  | .tup xs => xs.length ≤ sizeLine ∧ ∃ its : List Value, Vals xs its ∧ IsTup h a its.toArray
  | .dK kvs => kvs.length ≤ sizeLine ∧ (a == sysModules) = false ∧ ∃ vs, KV kvs vs ∧ h.DictOf (mixKind P w) a vs
  | .dT kvs => kvs.length ≤ sizeLine ∧ (a == sysModules) = false ∧ ∃ xs : List (List Key × Addr × Value),
      Paired (fun (p : List Key × V) (q : List Key × Addr × Value) => p.1 = q.1 ∧ H q.2.1 = some (.tup (p.1.map kV)) ∧ RelV p.2 q.2.2) kvs xs ∧
      ∃ o es ep, h.get? a = some o ∧ o.ExactDict ∧ o.data = .dict es ep ∧ es.toList = xs.map (entryOfKey (tupleKind (mixKind P w))) ∧ (xs.map (·.1)).Nodup
  | .set S n => h.SetOf (intKind P w) a S n
  | .ins C dx fs => H dx = some (.own a) ∧ fs.length ≤ 1000 ∧ dx ≠ a ∧ h.get? a = some (PySem.W.instObj C dx) ∧
      ∃ mA, h.Ns1 dx mA ∧ (∀ f, RelO (fs.lookup f) (mA f)) ∧ PySem.Within mA (fs.map (·.1))
  | .own _ => ∃ o, h.get? a = some o
  | .xd fs => ∃ mA, h.Ns1 a mA ∧ ∀ f, RelO (fs.lookup f) (mA f)
  | .rng lo hi => ∃ t u v, h.get? a = some { cls := .type "range", data := .fields #[.int lo t, .int hi u, .int 1 v] }
  | .frz o u => h.get? a = some o ∧ ObjOk H h a u
  | .tbl ps => h.get? a = some { cls := .none, data := .fields ps }
  | .met f x => h.get? a = some (PySem.W.methodObj (.ref f) (.ref x))
  | .ext φ => φ h ∧ (∃ o, h.get? a = some o) ∧ ∀ h1 h2 : Heap, φ h1 → (∀ o, h1.get? a = some o → h2.get? a = some o) → φ h2
/-- the abstract heap is held -/
def HOk (H : Hp) (h : Heap) : Prop := ∀ a o, H a = some o → ObjOk P w H h a o
end

section
variable {P : Program} {w : World} {H H' : Hp} {h h' : Heap} {a : Addr} {o : HO}
theorem ObjOk.lt (x : ObjOk P w H h a o) : a < h.objs.size := by
  cases o with
  | lst xs => obtain ⟨_, _, _, _, e⟩ := x; exact Heap.lt_size e
  | tup xs => obtain ⟨_, _, _, p⟩ := x; exact p.lt
  | dK kvs => obtain ⟨_, _, _, _, o, _, _, e, _⟩ := x; exact Heap.lt_size e
  | dT kvs => obtain ⟨_, _, _, _, o, _, _, e, _⟩ := x; exact Heap.lt_size e
  | set S n => obtain ⟨o, _, _, _, e, _⟩ := x; exact Heap.lt_size e
  | ins C dx fs => obtain ⟨_, _, _, e, _⟩ := x; exact Heap.lt_size e
  | own y => obtain ⟨_, e⟩ := x; exact Heap.lt_size e
  | xd fs => obtain ⟨_, ⟨_, _, _, e, _⟩, _⟩ := x; exact Heap.lt_size e
  | rng lo hi => obtain ⟨_, _, _, e⟩ := x; exact Heap.lt_size e
  | frz ob u => obtain ⟨e, _⟩ := x; exact Heap.lt_size e
  | tbl ps => exact Heap.lt_size (show h.get? a = some _ from x)
  | met f y => exact Heap.lt_size (show h.get? a = some _ from x)
  | ext φ => obtain ⟨_, ⟨_, e⟩, _⟩ := x; exact Heap.lt_size e
theorem Paired.mapP {α β : Type} {F G : α → β → Prop} : ∀ {l₁ : List α} {l₂ : List β}, Paired F l₁ l₂ → (∀ a b, F a b → G a b) → Paired G l₁ l₂
  | _, _, .nil, _ => .nil
  | _, _, .cons r t, f => .cons (f _ _ r) (Paired.mapP t f)
/-- what an object's description leans on: its own object, its own dict, the tuples -/
theorem ObjOk.stay (x : ObjOk P w H h a o) (k : ∀ b u, (b = a ∨ H b = some (.own a)) → h.get? b = some u → h'.get? b = some u)
    (ho : ∀ b, H b = some (.own a) → H' b = some (.own a)) (ht : ∀ b xs, H b = some (.tup xs) → H' b = some (.tup xs)) : ObjOk P w H' h' a o := by
  induction o with
  | lst xs => obtain ⟨z, its, n, r, e⟩ := x; exact ⟨z, its, n, r, k _ _ (.inl rfl) e⟩
  | tup xs => obtain ⟨z, its, r, ob, e, c⟩ := x; exact ⟨z, its, r, ob, k _ _ (.inl rfl) e, c⟩
  | dK kvs => obtain ⟨z, y, vs, r, ob, es, ep, e, c⟩ := x; exact ⟨z, y, vs, r, ob, es, ep, k _ _ (.inl rfl) e, c⟩
  | dT kvs =>
    obtain ⟨z, y, xs, r, ob, es, ep, e, c⟩ := x
    exact ⟨z, y, xs, Paired.mapP r fun p q z => ⟨z.1, ht _ _ z.2.1, z.2.2⟩, ob, es, ep, k _ _ (.inl rfl) e, c⟩
  | set S n => obtain ⟨ob, es, ep, t, e, c⟩ := x; exact ⟨ob, es, ep, t, k _ _ (.inl rfl) e, c⟩
  | ins C dx fs =>
    obtain ⟨d, z, ne, e, mA, ⟨od, es, ep, e2, c⟩, r⟩ := x
    exact ⟨ho _ d, z, ne, k _ _ (.inl rfl) e, mA, ⟨od, es, ep, k _ _ (.inr d) e2, c⟩, r⟩
  | own y => obtain ⟨ob, e⟩ := x; exact ⟨ob, k _ _ (.inl rfl) e⟩
  | xd fs => obtain ⟨mA, ⟨od, es, ep, e, c⟩, r⟩ := x; exact ⟨mA, ⟨od, es, ep, k _ _ (.inl rfl) e, c⟩, r⟩
  | rng lo hi => obtain ⟨t, u, v, e⟩ := x; exact ⟨t, u, v, k _ _ (.inl rfl) e⟩
  | frz ob u ih => obtain ⟨e, q⟩ := x; exact ⟨k _ _ (.inl rfl) e, ih q⟩
  | tbl ps =>
    have e : h.get? a = some { cls := .none, data := .fields ps } := x
    show h'.get? a = some { cls := .none, data := .fields ps }
    exact k a _ (.inl rfl) e
  | met f y =>
    have e : h.get? a = some (PySem.W.methodObj (.ref f) (.ref y)) := x
    show h'.get? a = some (PySem.W.methodObj (.ref f) (.ref y))
    exact k a _ (.inl rfl) e
  | ext φ => obtain ⟨p, ⟨o, e⟩, st⟩ := x; exact ⟨st _ _ p fun o q => k _ _ (.inl rfl) q, ⟨o, k _ _ (.inl rfl) e⟩, st⟩
theorem HOk.lt (x : HOk P w H h) (e : H a = some o) : a < h.objs.size := (x a o e).lt
theorem HOk.fresh (x : HOk P w H h) (e : h.objs.size ≤ a) : H a = none := by
  cases q : H a with
  | none => rfl
  | some u => exact absurd (Nat.lt_of_lt_of_le (x.lt q) e) (Nat.lt_irrefl _)
/-- every object of the heap is kept -/
theorem HOk.kept (x : HOk P w H h) (k : ∀ b u, h.get? b = some u → h'.get? b = some u) : HOk P w H h' := fun a o e =>
  (x a o e).stay (fun b u _ q => k b u q) (fun _ q => q) fun _ _ q => q
/-- a new object is laid and tracked -/
theorem HOk.laid (x : HOk P w H h) (k : ∀ b u, h.get? b = some u → h'.get? b = some u) (hp : h.objs.size ≤ a) (new : ObjOk P w (upd H a o) h' a o) : HOk P w (upd H a o) h' := fun b u e => by
  have hn := x.fresh hp
  by_cases hb : b = a
  · subst hb; rw [upd_same] at e; cases e; exact new
  · rw [upd_ne hb] at e
    exact (x b u e).stay (fun c v _ q => k c v q) (fun c q => by rw [upd_ne (ne_of_none q hn)]; exact q) fun c xs q => by rw [upd_ne (ne_of_none q hn)]; exact q
end

/-- what may be read as u: it is u, or a known u -/
def Rd (H : Hp) (a : Addr) (u : HO) : Prop := H a = some u ∨ ∃ o, H a = some (.frz o u)
theorem Rd.of {H : Hp} {a : Addr} {u : HO} (h : H a = some u) : Rd H a u := .inl h
theorem Rd.ok {P : Program} {w : World} {H : Hp} {h : Heap} {a : Addr} {u : HO} (r : Rd H a u) (x : HOk P w H h) : ObjOk P w H h a u := by
  rcases r with r | ⟨o, r⟩
  · exact x a u r
  · obtain ⟨_, q⟩ := x a _ r
    exact q
/-- what may be written -/
def Mut : Option HO → Prop
  | some (.lst _) => True
  | some (.dK _) => True
  | some (.dT _) => True
  | some (.set _ _) => True
  | some (.ins _ _ _) => True
  | some (.ext _) => True
  | _ => False
section
variable {P : Program} {w : World} {H : Hp} {h h' : Heap} {x e : Addr} {o' : HO}
/-- the object at e is changed: x itself, or the dict of the instance x -/
theorem HOk.write (ok : HOk P w H h) (mu : Mut (H x)) (he : e = x ∨ H e = some (.own x)) (k : ∀ b u, b ≠ e → h.get? b = some u → h'.get? b = some u) (heo : ∃ u, h'.get? e = some u)
    (new : ObjOk P w (upd H x o') h' x o') : HOk P w (upd H x o') h' := fun b u q => by
  have nown : ∀ c y, H c = some (.own y) → c ≠ x := fun c y r z => by subst z; rw [r] at mu; exact mu
  have ntup : ∀ c xs, H c = some (.tup xs) → c ≠ x := fun c xs r z => by subst z; rw [r] at mu; exact mu
  by_cases hb : b = x
  · subst hb; rw [upd_same] at q; cases q; exact new
  · rw [upd_ne hb] at q
    by_cases hbe : b = e
    · have q' : H b = some (.own x) := by
        rcases he with z | z
        · exact absurd (hbe.trans z) hb
        · rw [hbe]; exact z
      rw [q] at q'; cases q'
      obtain ⟨v, hv⟩ := heo
      exact ⟨v, by rw [hbe]; exact hv⟩
    · refine (ok b u q).stay (fun c v hc r => k c v ?_ r) (fun c r => by rw [upd_ne (nown c b r)]; exact r) fun c xs r => by rw [upd_ne (ntup c xs r)]; exact r
      rcases hc with rfl | hc
      · exact hbe
      · rintro rfl
        rcases he with z | z
        · exact nown c b hc z
        · rw [hc] at z; cases z; exact hb rfl
end

/-! ### kept unless tracked; of the frames at fs (the callers') the slots may change (an exception that passes writes there); of the records at ex (iterators) nothing is said -/
structure Un (fs ex : List Addr) (H H' : Hp) (h h' : Heap) : Prop where
  keep : ∀ b o, h.get? b = some o → H b = none → b ∉ fs → b ∉ ex → h'.get? b = some o
  slot : ∀ b o, h.get? b = some o → H b = none → b ∈ fs → b ∉ ex → ∃ sl, h'.get? b = some { o with slots := sl }
  free : ∀ b o, h.get? b = some o → H b = none → b ∉ ex → H' b = none
  there : ∀ b o, h.get? b = some o → b ∉ ex → ∃ o', h'.get? b = some o'
  tups : ∀ b xs, H b = some (.tup xs) → H' b = some (.tup xs)
  frzs : ∀ b o u, H b = some (.frz o u) → H' b = some (.frz o u)
  tbls : ∀ b ps, H b = some (.tbl ps) → ∃ more, H' b = some (.tbl (ps ++ more))
section
variable {fs fs' ex ex' : List Addr} {H H1 H2 : Hp} {h h1 h2 h' : Heap} {a x e : Addr} {o : HO}
theorem Un.any (u : Un fs ex H H1 h h1) {b : Addr} {ob : Obj} (q : h.get? b = some ob) (n : H b = none) (hx : b ∉ ex) : ∃ sl, h1.get? b = some { ob with slots := sl } := by
  by_cases hb : b ∈ fs
  · exact u.slot b ob q n hb hx
  · exact ⟨ob.slots, u.keep b ob q n hb hx⟩
theorem Un.trans (a : Un fs ex H H1 h h1) (b : Un fs ex H1 H2 h1 h2) : Un fs ex H H2 h h2 where
  keep := fun c ob q n hc hx => b.keep c ob (a.keep c ob q n hc hx) (a.free c ob q n hx) hc hx
  slot := fun c ob q n hc hx => by
    obtain ⟨sl, e1⟩ := a.slot c ob q n hc hx
    obtain ⟨sl', e2⟩ := b.slot c _ e1 (a.free c ob q n hx) hc hx
    exact ⟨sl', e2⟩
  free := fun c ob q n hx => by
    obtain ⟨o', e1⟩ := a.there c ob q hx
    exact b.free c o' e1 (a.free c ob q n hx) hx
  there := fun c ob q hx => by
    obtain ⟨o', e1⟩ := a.there c ob q hx
    exact b.there c o' e1 hx
  tups := fun c xs q => b.tups c xs (a.tups c xs q)
  frzs := fun c ob xs q => b.frzs c ob xs (a.frzs c ob xs q)
  tbls := fun c ps q => by
    obtain ⟨m1, e1⟩ := a.tbls c ps q
    obtain ⟨m2, e2⟩ := b.tbls c _ e1
    exact ⟨m1 ++ m2, by rw [e2, Array.append_assoc]⟩
theorem Un.kept (k : ∀ b u, h.get? b = some u → h'.get? b = some u) : Un fs ex H H h h' :=
  ⟨fun b ob q _ _ _ => k b ob q, fun b ob q _ _ _ => ⟨ob.slots, k b ob q⟩, fun _ _ _ n _ => n, fun b ob q _ => ⟨ob, k b ob q⟩, fun _ _ q => q, fun _ _ _ q => q, fun _ ps q => ⟨#[], by rw [q]; simp⟩⟩
theorem Un.refl : Un fs ex H H h h := Un.kept fun _ _ q => q
theorem Un.laid (k : ∀ b u, h.get? b = some u → h'.get? b = some u) (hp : h.objs.size ≤ a) (hn : H a = none) : Un fs ex H (upd H a o) h h' where
  keep := fun b u q _ _ _ => k b u q
  slot := fun b u q _ _ _ => ⟨u.slots, k b u q⟩
  free := fun b u q n _ => by rw [upd_ne (Nat.ne_of_lt (Nat.lt_of_lt_of_le (Heap.lt_size q) hp))]; exact n
  there := fun b u q _ => ⟨u, k b u q⟩
  tups := fun b xs q => by rw [upd_ne (ne_of_none q hn)]; exact q
  frzs := fun b u xs q => by rw [upd_ne (ne_of_none q hn)]; exact q
  tbls := fun b ps q => ⟨#[], by rw [upd_ne (ne_of_none q hn), q]; simp⟩
theorem Un.write (mu : Mut (H x)) (he : e = x ∨ H e = some (.own x)) (k : ∀ b u, b ≠ e → h.get? b = some u → h'.get? b = some u) (heo : ∃ u, h'.get? e = some u) : Un fs ex H (upd H x o) h h' := by
  have hx : ∀ b, H b = none → b ≠ x := fun b n z => by subst z; rw [n] at mu; exact mu
  have hb : ∀ b, H b = none → b ≠ e := fun b n z => by
    subst z
    rcases he with r | r
    · exact hx b n r
    · rw [n] at r; cases r
  have hm : ∀ b u, H b = some u → ¬ Mut (some u) → b ≠ x := fun b u q nm z => by subst z; rw [q] at mu; exact nm mu
  refine ⟨fun b u q n _ _ => k b u (hb b n) q, fun b u q n _ _ => ⟨u.slots, k b u (hb b n) q⟩, fun b u q n _ => by rw [upd_ne (hx b n)]; exact n, fun b u q _ => ?_,
    fun b xs q => by rw [upd_ne (hm b _ q fun z => z)]; exact q, fun b u xs q => by rw [upd_ne (hm b _ q fun z => z)]; exact q, fun b ps q => ⟨#[], by rw [upd_ne (hm b _ q fun z => z), q]; simp⟩⟩
  by_cases hbe : b = e
  · subst hbe; exact heo
  · exact ⟨u, k b u hbe q⟩
theorem Un.mono (u : Un fs ex H H1 h h1) (hs : ∀ b ∈ fs, b ∈ fs') (hx : ∀ b ∈ ex, b ∈ ex') : Un fs' ex' H H1 h h1 :=
  ⟨fun b ob q n hb he => u.keep b ob q n (fun z => hb (hs b z)) fun z => he (hx b z), fun _ _ q n _ he => u.any q n fun z => he (hx _ z), fun b ob q n he => u.free b ob q n fun z => he (hx b z), fun b ob q he => u.there b ob q fun z => he (hx b z), u.tups, u.frzs, u.tbls⟩
end

/-! ### the heap without what is tracked -/
def trk (h : Heap) (H : Hp) : List Addr := (List.range h.objs.size).filter fun a => (H a).isSome
def hidT (h : Heap) (H : Hp) : Heap := PySem.W.hideAll h (trk h H)
theorem hidT_size (h : Heap) (H : Hp) : (hidT h H).objs.size = h.objs.size := PySem.W.hideAll_size _ _
theorem hidT_get {h : Heap} {H : Hp} {b : Addr} {o : Obj} (e : h.get? b = some o) (n : H b = none) : (hidT h H).get? b = some o :=
  PySem.W.hideAll_get _ e fun hm => by
    have q : (H b).isSome = true := (List.mem_filter.mp hm).2
    rw [n] at q; simp at q
theorem of_hidT {h : Heap} {H : Hp} {b : Addr} {o : Obj} (e : (hidT h H).get? b = some o) : h.get? b = some o ∧ H b = none := by
  have e' : h.get? b = some o := PySem.W.of_hideAll (trk h H) e
  refine ⟨e', ?_⟩
  cases q : H b with
  | none => rfl
  | some x =>
    have hm : b ∈ trk h H := List.mem_filter.mpr ⟨List.mem_range.mpr (Heap.lt_size e'), by simp [q]⟩
    have z : (hidT h H).get? b = none := PySem.W.hideAll_none (trk h H) hm
    rw [z] at e; cases e

/-! ### OpenK's ledger, filled with every new object but one -/
def allNews (g h : Heap) (L : Addr) : List (Addr × Obj) := (List.range h.objs.size).filterMap fun a => if a = L ∨ (g.get? a).isSome = true then none else (h.get? a).map fun o => (a, o)
def rest (g h : Heap) (L d : Addr) : List (Addr × Obj) := (allNews g h L).filter fun p => decide (p.1 ≠ d)
end L2

namespace L2
open PySem PySem.Spec PyProof.Rows

/-- the module's facts, over the base: the heap at the law's entry without what is tracked there -/
structure Mod (K : PySem.W.Frag) (mg : Str → Option Value) (base : Heap) : Prop where
  kin : K.In base
  glob : base.Ns mainGlobals mg
  blt : ∃ mb, base.Ns builtinsNs mb ∧ ∀ x : Str, x ≠ "__name__" → mb x = bootBuiltins x
  nolimit : base.NoLimit

/-- the context: a def's body (or a comprehension's block) running. base: fixed through the whole law; s₀, H₀: the entry; outer: the frames whose slots others may change (a def's callers); stack: all frames that run;
   ex: iterators that were made ahead of the entry and are walked here (a comprehension's); fn: the names whose cells were made at the entry (a def: all; a comprehension's block: its own); calm: not within an except suite; pn: pins that every state bears; xe: what is wanted of an exception that leaves the code -/
structure Cx where
  prog : Program
  w : World
  K : PySem.W.Frag
  mg : Str → Option Value
  base : Heap
  A : Around
  N : List Str
  s₀ : Shared
  H₀ : Hp
  env : Env
  outer : List Env
  stack : List Env
  ex : List Addr
  fn : Str → Bool
  calm : Bool
  pn : List (Addr × Obj)
  xe : Value → Shared → Prop
/-- the callers' frames -/
def frs (l : List Env) : List Addr := l.filterMap (·.frame)
abbrev Cx.fs (X : Cx) : List Addr := frs X.outer

def Vis (sc : Scope) (x : Str) : Prop := sc.names.lookup x = some .local ∨ sc.names.lookup x = some .cell ∨ sc.names.lookup x = some .free
def Loc (sc : Scope) (x : Str) : Prop := sc.names.lookup x = some .local ∨ sc.names.lookup x = some .cell
def Look (env : Env) (h : Heap) (m : Str → Option Value) (x : Str) (u : Value) : Prop :=
  (env.kindOf x = some .local ∧ m x = some u) ∨ ((env.kindOf x = some .cell ∨ env.kindOf x = some .free) ∧ ∃ c, env.cells.lookup x = some c ∧ h.IsCell c (some u))

structure Cx.Ok (X : Cx) : Prop where
  mod : Mod X.K X.mg X.base
  kind : X.env.scope.kind = .function
  glob : X.env.globals = mainGlobals
  blt : X.env.builtins = builtinsNs
  above : X.s₀.heap.objs.size ≤ X.env.locals
  inj : ∀ x y c, X.env.cells.lookup x = some c → X.env.cells.lookup y = some c → x = y
  has : ∀ x, (X.env.kindOf x = some .cell ∨ X.env.kindOf x = some .free) → ∃ c, X.env.cells.lookup x = some c
  cab : ∀ x c, X.fn x = true → X.env.cells.lookup x = some c → X.s₀.heap.objs.size ≤ c
  hd : X.calm = true → X.A.handled = none
  frames : X.A.frames = some X.stack
  stk : X.stack = X.outer ∨ (X.stack = X.env :: X.outer ∧ X.env.frame = some X.env.locals)
  exf : ∀ b ∈ X.ex, b ≠ X.env.locals ∧ ∀ x c, X.env.cells.lookup x = some c → c ≠ b
  bs : ∀ b o, X.base.get? b = some o → X.s₀.heap.get? b = some o ∧ X.H₀ b = none
  bsz : X.base.objs.size ≤ X.s₀.heap.objs.size
  noex : ∀ b o, X.base.get? b = some o → b ∉ X.ex
  exfs : ∀ b ∈ X.ex, b ∉ X.fs
  funs : X.s₀.heap.FunFrames X.base X.outer
  frf : ∀ b ∈ X.fs, X.H₀ b = none

structure Inv (X : Cx) (pins : List (Addr × Obj)) (σ : List (Option V)) (H : Hp) (s : Shared) : Prop where
  ok : X.Ok
  os : s.os = X.s₀.os
  bare : AllBare s.gens
  base : Un X.fs X.ex X.H₀ H X.s₀.heap s.heap
  loc : ∃ m, s.heap.Ns X.env.locals m ∧ ∀ (i : Nat) (x : Str) (v : V), X.N[i]? = some x → σ[i]? = some (some v) → Vis X.env.scope x → ∃ u, RelV v u ∧ Look X.env s.heap m x u
  cell : ∀ x c, X.env.cells.lookup x = some c → ∃ v, s.heap.IsCell c v
  free : H X.env.locals = none
  freeC : ∀ x c, X.env.cells.lookup x = some c → H c = none
  pin : ∀ p ∈ X.pn ++ pins, s.heap.get? p.1 = some p.2 ∧ H p.1 = none ∧ p.1 ≠ X.env.locals ∧ p.1 ∉ X.fs ∧ ∀ v, p.2.data ≠ .cell v
  hok : HOk X.prog X.w H s.heap
  len : σ.length = X.N.length

section
variable {X : Cx} {pins : List (Addr × Obj)} {σ : List (Option V)} {H H' : Hp} {s : Shared} {h' : Heap}

theorem Cx.Ok.nofr (ok : X.Ok) {b : Addr} {o : Obj} (e : X.base.get? b = some o) : b ∉ X.fs := fun hb => by
  have := (ok.funs.mem hb).1
  rw [e] at this; cases this
theorem Inv.bs (I : Inv X pins σ H s) : ∀ b o, X.base.get? b = some o → s.heap.get? b = some o ∧ H b = none := fun b o e =>
  ⟨I.base.keep b o (I.ok.bs b o e).1 (I.ok.bs b o e).2 (I.ok.nofr e) (I.ok.noex b o e), I.base.free b o (I.ok.bs b o e).1 (I.ok.bs b o e).2 (I.ok.noex b o e)⟩
theorem Inv.bk (I : Inv X pins σ H s) : ∀ b o, X.base.get? b = some o → s.heap.get? b = some o := fun b o e => (I.bs b o e).1
theorem Inv.mod (I : Inv X pins σ H s) : Mod X.K X.mg X.base := I.ok.mod
theorem Inv.kIn (I : Inv X pins σ H s) : X.K.In s.heap := I.ok.mod.kin.keeps I.bk
theorem Inv.nolimit (I : Inv X pins σ H s) : s.heap.NoLimit := I.ok.mod.nolimit.keeps I.bk
/-- the frame over the base: for OpenK's rules (K.In X.base is I.mod.kin) -/
theorem Inv.fr (I : Inv X pins σ H s) : ∃ m, Fr X.base X.env.locals s.heap m :=
  let ⟨m, hn, _⟩ := I.loc
  ⟨m, hn, I.bk, Nat.le_trans I.ok.bsz I.ok.above⟩
theorem Inv.lt (I : Inv X pins σ H s) : X.env.locals < s.heap.objs.size := let ⟨_, hn, _⟩ := I.loc; hn.lt
theorem Inv.sz (I : Inv X pins σ H s) : X.s₀.heap.objs.size ≤ s.heap.objs.size := Nat.le_trans I.ok.above (Nat.le_of_lt I.lt)
theorem Inv.nofs (I : Inv X pins σ H s) {a : Addr} (h : s.heap.objs.size ≤ a) : a ∉ X.fs := fun hb => by
  obtain ⟨_, o, ho, _⟩ := I.ok.funs.mem hb
  exact absurd (Nat.lt_of_lt_of_le (Heap.lt_size ho) (Nat.le_trans I.sz h)) (Nat.lt_irrefl _)
theorem Inv.cne (I : Inv X pins σ H s) : ∀ x c, X.env.cells.lookup x = some c → c ≠ X.env.locals := fun x c e z => by
  obtain ⟨v, o, ho, hd⟩ := I.cell x c e
  obtain ⟨m, ⟨o', es, ep, ho', hd', _⟩, _⟩ := I.loc
  rw [z, ho'] at ho; cases ho; rw [hd'] at hd; cases hd
theorem Inv.funs (I : Inv X pins σ H s) : s.heap.FunFrames X.base X.outer := by
  have all : ∀ (l : List Env), (∀ b ∈ frs l, b ∈ X.fs) → X.s₀.heap.FunFrames X.base l → s.heap.FunFrames X.base l := by
    intro l
    induction l with
    | nil => intro _ _; trivial
    | cons env r ih =>
      intro hs hl
      obtain ⟨hk, ⟨L, o, hf, hn, ho, hd⟩, hr⟩ := hl
      have hL : L ∈ X.fs := hs L (by unfold frs; rw [List.filterMap_cons, hf]; exact List.mem_cons_self)
      obtain ⟨sl, e⟩ := I.base.slot L o ho (I.ok.frf L hL) hL fun z => I.ok.exfs L z hL
      exact ⟨hk, ⟨L, _, hf, hn, e, hd⟩, ih (fun b hb => hs b (by unfold frs; rw [List.filterMap_cons, hf]; exact List.mem_cons_of_mem _ hb)) hr⟩
  exact all X.outer (fun _ hb => hb) I.ok.funs

/-- the frames that run, for a call -/
theorem Inv.stack (I : Inv X pins σ H s) : s.heap.FunFrames X.base X.stack := by
  rcases I.ok.stk with e | ⟨e, hf⟩
  · rw [e]; exact I.funs
  · rw [e]
    obtain ⟨m, hn, _⟩ := I.loc
    refine .cons (by rw [I.ok.kind]; decide) hf hn ?_ I.funs
    exact Heap.get?_none_of_le (Nat.le_trans I.ok.bsz I.ok.above)
theorem Inv.stkSub (I : Inv X pins σ H s) : ∀ b ∈ frs X.stack, b ∈ X.env.locals :: X.fs := fun b hb => by
  rcases I.ok.stk with e | ⟨e, hf⟩
  · rw [e] at hb; exact List.mem_cons_of_mem _ hb
  · rw [e] at hb
    unfold frs at hb
    rw [List.filterMap_cons, hf] at hb
    exact hb
theorem Inv.stkFree (I : Inv X pins σ H s) : ∀ b ∈ frs X.stack, H b = none := fun b hb => by
  rcases List.mem_cons.mp (I.stkSub b hb) with e | hb
  · rw [e]; exact I.free
  · obtain ⟨_, o, ho, _⟩ := I.ok.funs.mem hb
    exact I.base.free b o ho (I.ok.frf b hb) fun z => I.ok.exfs b z hb

/-- THE STEP: the untracked objects but the frame and the records at ch are kept (the callers' frames up to slots), the frame's map is kept, the new abstract heap is held -/
theorem Inv.step {g' : Array GenState} {t' : Nat} {d' : Drawn} {ch : List Addr} (I : Inv X pins σ H s)
    (hch : ∀ b ∈ ch, (b ∈ X.ex ∨ X.s₀.heap.objs.size ≤ b) ∧ b ≠ X.env.locals ∧ (∀ x c, X.env.cells.lookup x = some c → c ≠ b) ∧ ∀ p ∈ X.pn ++ pins, p.1 ≠ b)
    (keep : ∀ b o, b ≠ X.env.locals → b ∉ X.fs → b ∉ ch → s.heap.get? b = some o → H b = none → h'.get? b = some o)
    (slot : ∀ b o, b ≠ X.env.locals → b ∈ X.fs → b ∉ ch → s.heap.get? b = some o → H b = none → ∃ sl, h'.get? b = some { o with slots := sl }) (free : ∀ b o, b ∉ ch → s.heap.get? b = some o → H b = none → H' b = none)
    (there : ∀ b o, b ∉ ch → s.heap.get? b = some o → ∃ o', h'.get? b = some o')
    (tups : ∀ b xs, H b = some (.tup xs) → H' b = some (.tup xs)) (frzs : ∀ b o u, H b = some (.frz o u) → H' b = some (.frz o u)) (tbls : ∀ b ps, H b = some (.tbl ps) → ∃ more, H' b = some (.tbl (ps ++ more)))
    (ns : ∀ m, s.heap.Ns X.env.locals m → h'.Ns X.env.locals m) (hok : HOk X.prog X.w H' h') (hg : AllBare g') :
    Inv X pins σ H' { s with heap := h', gens := g', drawn := d', toks := t' } := by
  have neL : ∀ b o, X.s₀.heap.get? b = some o → b ≠ X.env.locals := fun b o e => Nat.ne_of_lt (Nat.lt_of_lt_of_le (Heap.lt_size e) I.ok.above)
  have neC : ∀ b o, X.s₀.heap.get? b = some o → b ∉ X.ex → b ∉ ch := fun b o e hx hb => by
    rcases (hch b hb).1 with z | z
    · exact hx z
    · exact absurd (Nat.lt_of_lt_of_le (Heap.lt_size e) z) (Nat.lt_irrefl _)
  have cellK : ∀ x c, X.env.cells.lookup x = some c → ∀ v, s.heap.IsCell c v → h'.IsCell c v := fun x c e v ⟨o, ho, hd⟩ => by
    have nch : c ∉ ch := fun z => (hch c z).2.2.1 x c e rfl
    by_cases hc : c ∈ X.fs
    · obtain ⟨sl, q⟩ := slot c o (I.cne x c e) hc nch ho (I.freeC x c e)
      exact ⟨_, q, hd⟩
    · exact ⟨o, keep c o (I.cne x c e) hc nch ho (I.freeC x c e), hd⟩
  refine ⟨I.ok, I.os, hg, ⟨fun b o e n hb hx => ?_, fun b o e n hb hx => ?_, fun b o e n hx => ?_, fun b o e hx => ?_, fun b xs e => tups b xs (I.base.tups b xs e), fun b o xs e => frzs b o xs (I.base.frzs b o xs e), fun b ps e => ?_⟩, ?_, fun x c e => ?_, ?_, fun x c e => ?_, fun p hp => ?_, hok, I.len⟩
  · exact keep b o (neL b o e) hb (neC b o e hx) (I.base.keep b o e n hb hx) (I.base.free b o e n hx)
  · obtain ⟨sl, e1⟩ := I.base.slot b o e n hb hx
    obtain ⟨sl', e2⟩ := slot b _ (neL b o e) hb (neC b o e hx) e1 (I.base.free b o e n hx)
    exact ⟨sl', e2⟩
  · obtain ⟨o', e1⟩ := I.base.there b o e hx
    exact free b o' (neC b o e hx) e1 (I.base.free b o e n hx)
  · obtain ⟨o', e1⟩ := I.base.there b o e hx
    exact there b o' (neC b o e hx) e1
  · obtain ⟨m1, e1⟩ := I.base.tbls b ps e
    obtain ⟨m2, e2⟩ := tbls b _ e1
    exact ⟨m1 ++ m2, by rw [e2, Array.append_assoc]⟩
  · obtain ⟨m, hn, hl⟩ := I.loc
    refine ⟨m, ns m hn, fun i x v e1 e2 e3 => ?_⟩
    obtain ⟨u, r, l⟩ := hl i x v e1 e2 e3
    refine ⟨u, r, ?_⟩
    rcases l with l | ⟨k, c, e, z⟩
    · exact .inl l
    · exact .inr ⟨k, c, e, cellK x c e _ z⟩
  · obtain ⟨v, z⟩ := I.cell x c e
    exact ⟨v, cellK x c e v z⟩
  · obtain ⟨m, ⟨o, _, _, ho, _⟩, _⟩ := I.loc
    exact free _ o (fun z => (hch _ z).2.1 rfl) ho I.free
  · obtain ⟨v, o, ho, hd⟩ := I.cell x c e
    exact free c o (fun z => (hch c z).2.2.1 x c e rfl) ho (I.freeC x c e)
  · obtain ⟨e, n, ne, nf, d⟩ := I.pin p hp
    have nch : p.1 ∉ ch := fun z => (hch p.1 z).2.2.2 p hp rfl
    exact ⟨keep p.1 p.2 ne nf nch e n, free p.1 p.2 nch e n, ne, nf, d⟩
/-- .. where the frame's own object is kept too -/
theorem Inv.un {t' : Nat} (I : Inv X pins σ H s) (u : Un X.fs [] H H' s.heap h') (hok : HOk X.prog X.w H' h') : Inv X pins σ H' { s with heap := h', toks := t' } := by
  obtain ⟨m, ⟨o, es, ep, ho, r⟩, _⟩ := id I.loc
  obtain ⟨sl, hL⟩ := u.any ho I.free (by simp)
  exact I.step (g' := s.gens) (d' := s.drawn) (ch := []) (fun _ z => nomatch z) (fun b o _ hb _ e n => u.keep b o e n hb (by simp)) (fun b o _ hb _ e n => u.slot b o e n hb (by simp)) (fun b o _ e n => u.free b o e n (by simp)) (fun b o _ e => u.there b o e (by simp)) u.tups u.frzs u.tbls (fun m' hm => by
    obtain ⟨o', es', ep', ho', r'⟩ := hm
    rw [ho] at ho'; cases ho'
    exact ⟨_, es', ep', hL, r'⟩) hok I.bare
/-- behind a call (or a comprehension's block): the slots of this frame may have changed too, the records at ch may have turned -/
theorem Inv.call {g' : Array GenState} {t' : Nat} {d' : Drawn} {ch : List Addr} (I : Inv X pins σ H s) (u : Un (frs X.stack) ch H H' s.heap h') (hok : HOk X.prog X.w H' h') (hg : AllBare g')
    (hch : ∀ b ∈ ch, (b ∈ X.ex ∨ X.s₀.heap.objs.size ≤ b) ∧ b ≠ X.env.locals ∧ (∀ x c, X.env.cells.lookup x = some c → c ≠ b) ∧ ∀ p ∈ X.pn ++ pins, p.1 ≠ b) :
    Inv X pins σ H' { s with heap := h', gens := g', drawn := d', toks := t' } := by
  obtain ⟨m, ⟨o, es, ep, ho, r⟩, _⟩ := id I.loc
  obtain ⟨sl, hL⟩ := u.any ho I.free fun z => (hch _ z).2.1 rfl
  exact I.step (ch := ch) hch (fun b o hL hb hc e n => u.keep b o e n (fun z => (List.mem_cons.mp (I.stkSub b z)).elim hL hb) hc) (fun b o _ _ hc e n => u.any e n hc) (fun b o hc e n => u.free b o e n hc) (fun b o hc e => u.there b o e hc) u.tups u.frzs u.tbls (fun m' hm => by
    obtain ⟨o', es', ep', ho', r'⟩ := hm
    rw [ho] at ho'; cases ho'
    exact ⟨_, es', ep', hL, r'⟩) hok hg
/-- an untracked record of ours (an iterator) has turned -/
theorem Inv.turned {t' : Nat} {it : Addr} (I : Inv X pins σ H s) (k : ∀ b o, b ≠ it → s.heap.get? b = some o → h'.get? b = some o) (hn : H it = none) (hL : it ≠ X.env.locals)
    (h1 : it ∈ X.ex ∨ X.s₀.heap.objs.size ≤ it) (h2 : ∀ x c, X.env.cells.lookup x = some c → c ≠ it) (h3 : ∀ p ∈ X.pn ++ pins, p.1 ≠ it) : Inv X pins σ H { s with heap := h', toks := t' } := by
  have nit : ∀ b u, H b = some u → b ≠ it := fun b u e z => by rw [z, hn] at e; cases e
  refine I.step (g' := s.gens) (d' := s.drawn) (ch := [it]) (fun b hb => ?_) (fun b o _ _ hc e _ => k b o (fun z => hc (by simp [z])) e) (fun b o _ _ hc e _ => ⟨o.slots, k b o (fun z => hc (by simp [z])) e⟩) (fun _ _ _ _ n => n)
    (fun b o hc e => ⟨o, k b o (fun z => hc (by simp [z])) e⟩) (fun _ _ e => e) (fun _ _ _ e => e) (fun b ps e => ⟨#[], by rw [e]; simp⟩) (fun m hm => ?_) (fun b u e => ?_) I.bare
  · have e : b = it := by simpa using hb
    subst e
    exact ⟨h1, hL, h2, h3⟩
  · obtain ⟨o, es, ep, ho, r⟩ := hm
    exact ⟨o, es, ep, k _ o (Ne.symm hL) ho, r⟩
  · refine (I.hok b u e).stay (fun c v hc q => k c v ?_ q) (fun _ q => q) fun _ _ q => q
    rcases hc with z | z
    · rw [z]; exact nit b u e
    · exact nit c _ z
theorem Inv.tok (I : Inv X pins σ H s) (t : Nat) : Inv X pins σ H { s with toks := t } := I.un (h' := s.heap) (t' := t) Un.refl I.hok
/-- all objects kept -/
theorem Inv.kept {t' : Nat} (I : Inv X pins σ H s) (k : ∀ b u, s.heap.get? b = some u → h'.get? b = some u) : Inv X pins σ H { s with heap := h', toks := t' } := I.un (Un.kept k) (I.hok.kept k)
/-- a new object laid and tracked -/
theorem Inv.laid {a : Addr} {o : HO} {t' : Nat} (I : Inv X pins σ H s) (k : ∀ b u, s.heap.get? b = some u → h'.get? b = some u) (hp : s.heap.objs.size ≤ a) (new : ObjOk X.prog X.w (upd H a o) h' a o) :
    Inv X pins σ (upd H a o) { s with heap := h', toks := t' } := I.un (Un.laid k hp (I.hok.fresh hp)) (I.hok.laid k hp new)
/-- an object written -/
theorem Inv.write {x e : Addr} {o : HO} {t' : Nat} (I : Inv X pins σ H s) (mu : Mut (H x)) (he : e = x ∨ H e = some (.own x)) (k : ∀ b u, b ≠ e → s.heap.get? b = some u → h'.get? b = some u) (heo : ∃ u, h'.get? e = some u)
    (new : ObjOk X.prog X.w (upd H x o) h' x o) : Inv X pins σ (upd H x o) { s with heap := h', toks := t' } := I.un (Un.write mu he k heo) (I.hok.write mu he k heo new)
/-- forgetting slots, pins -/
theorem Inv.weak {σ' : List (Option V)} (I : Inv X pins σ H s) (hl : σ'.length = σ.length) (w : ∀ (i : Nat) v, σ'[i]? = some (some v) → σ[i]? = some (some v)) : Inv X pins σ' H s :=
  ⟨I.ok, I.os, I.bare, I.base, let ⟨m, hn, hl'⟩ := I.loc; ⟨m, hn, fun i x v e1 e2 e3 => hl' i x v e1 (w i v e2) e3⟩, I.cell, I.free, I.freeC, I.pin, I.hok, hl.trans I.len⟩
theorem Inv.pins_of {pins' : List (Addr × Obj)} (I : Inv X pins σ H s) (h : ∀ p ∈ pins', s.heap.get? p.1 = some p.2 ∧ H p.1 = none ∧ p.1 ≠ X.env.locals ∧ p.1 ∉ X.fs ∧ ∀ v, p.2.data ≠ .cell v) : Inv X pins' σ H s :=
  ⟨I.ok, I.os, I.bare, I.base, I.loc, I.cell, I.free, I.freeC, fun p hp => (List.mem_append.mp hp).elim (fun z => I.pin p (List.mem_append_left _ z)) (h p), I.hok, I.len⟩

theorem nodup_ix {N : List Str} (hN : N.Nodup) {i j : Nat} {x : Str} (a : N[i]? = some x) (b : N[j]? = some x) : i = j := by
  obtain ⟨h1, e1⟩ := List.getElem?_eq_some_iff.mp a
  obtain ⟨h2, e2⟩ := List.getElem?_eq_some_iff.mp b
  exact (List.getElem_inj hN).mp (e1.trans e2.symm)

/-- a name is stored; what changed -/
theorem store_ok2 {M : Model} {A : Around} {E : Value → Shared → Prop} {i : Nat} {x : Str} {v : V} {u : Value} {Q : Unit → Shared → Prop} (I : Inv X pins σ H s) (hN : X.N.Nodup) (hi : X.N[i]? = some x) (hx : Loc X.env.scope x) (r : RelV v u)
    (h : ∀ s', Inv X pins (σ.set i (some v)) H s' → (∃ a, Heap.SameBut a s.heap s'.heap ∧ (a = X.env.locals ∨ X.env.cells.lookup x = some a)) → Q () s') (hf : X.fn x = true ∨ X.env.scope.names.lookup x = some .local := by first | exact .inl rfl | exact .inr rfl | assumption) : wpAny M A (storeName X.env x u) Q E s := by
  obtain ⟨m, hn, hl⟩ := id I.loc
  have hcls : (X.env.scope.kind == .class || (X.env.scope.kind == .module && X.env.locals != X.env.globals)) = false := by rw [I.ok.kind]; rfl
  have hiσ : i < σ.length := by rw [I.len]; exact (List.getElem?_eq_some_iff.mp hi).1
  have cne := I.cne
  have tracked : ∀ {a : Addr} {h' : Heap}, (∃ o, s.heap.get? a = some o ∧ H a = none) → Heap.SameBut a s.heap h' → HOk X.prog X.w H h' := fun {a h'} ha hs b ob e => by
    obtain ⟨_, _, hfree⟩ := ha
    refine (I.hok b ob e).stay (fun c w' hc q => (hs.2 c ?_).trans q) (fun _ q => q) fun _ _ q => q
    rintro rfl
    rcases hc with rfl | hc
    · rw [hfree] at e; cases e
    · rw [hfree] at hc; cases hc
  rcases hx with hk | hk
  · refine wpAny_storeName_local hk hn (fun h' hn' hs => ?_) hcls
    obtain ⟨oL, _, _, hoL, _⟩ := id hn
    refine h _ ⟨I.ok, I.os, I.bare, ⟨fun b o e n hb hx => ?_, fun b o e n hb hx => ?_, I.base.free, fun b o e hx => ?_, I.base.tups, I.base.frzs, I.base.tbls⟩, ⟨_, hn', fun j y v' e1 e2 e3 => ?_⟩, fun y c e => ?_, I.free, I.freeC, fun p hp => ?_, tracked ⟨oL, hoL, I.free⟩ hs, by simpa using I.len⟩ ⟨_, hs, .inl rfl⟩
    · exact (hs.2 b (Nat.ne_of_lt (Nat.lt_of_lt_of_le (Heap.lt_size e) I.ok.above))).trans (I.base.keep b o e n hb hx)
    · obtain ⟨sl, e1⟩ := I.base.slot b o e n hb hx
      exact ⟨sl, (hs.2 b (Nat.ne_of_lt (Nat.lt_of_lt_of_le (Heap.lt_size e) I.ok.above))).trans e1⟩
    · obtain ⟨o', e1⟩ := I.base.there b o e hx
      exact ⟨o', (hs.2 b (Nat.ne_of_lt (Nat.lt_of_lt_of_le (Heap.lt_size e) I.ok.above))).trans e1⟩
    · by_cases hj : j = i
      · subst hj
        rw [hi] at e1; cases e1
        rw [List.getElem?_set_self hiσ] at e2
        cases e2
        exact ⟨u, r, .inl ⟨hk, by simp⟩⟩
      · rw [List.getElem?_set_ne (Ne.symm hj)] at e2
        obtain ⟨u', r', q⟩ := hl j y v' e1 e2 e3
        refine ⟨u', r', ?_⟩
        rcases q with ⟨k, e⟩ | ⟨k, c, e, z⟩
        · refine .inl ⟨k, ?_⟩
          have : y ≠ x := fun e => hj (nodup_ix hN e1 (e ▸ hi))
          simp [this, e]
        · exact .inr ⟨k, c, e, z.sameBut hs (cne y c e)⟩
    · obtain ⟨w', z⟩ := I.cell y c e
      exact ⟨w', z.sameBut hs (cne y c e)⟩
    · obtain ⟨e, n, ne, nf, d⟩ := I.pin p hp
      exact ⟨(hs.2 p.1 ne).trans e, n, ne, nf, d⟩
  · have hfn : X.fn x = true := by
      rcases hf with z | z
      · exact z
      · rw [z] at hk; cases hk
    obtain ⟨c, hc⟩ := I.ok.has x (.inl hk)
    obtain ⟨w', z⟩ := I.cell x c hc
    refine wpAny_storeName_cell I.ok.kind hk hc z (fun h' hc' hs => ?_)
    obtain ⟨oc, hoc, hocd⟩ := id z
    refine h { s with heap := h' } ⟨I.ok, I.os, I.bare, ⟨fun b o e n hb hx => ?_, fun b o e n hb hx => ?_, I.base.free, fun b o e hx => ?_, I.base.tups, I.base.frzs, I.base.tbls⟩, ⟨m, hn.sameBut hs (Ne.symm (cne x c hc)), fun j y v' e1 e2 e3 => ?_⟩, fun y c' e => ?_, I.free, I.freeC, fun p hp => ?_, tracked ⟨oc, hoc, I.freeC x c hc⟩ hs, by simpa using I.len⟩ ⟨c, hs, .inr hc⟩
    · exact (hs.2 b (Nat.ne_of_lt (Nat.lt_of_lt_of_le (Heap.lt_size e) (I.ok.cab x c hfn hc)))).trans (I.base.keep b o e n hb hx)
    · obtain ⟨sl, e1⟩ := I.base.slot b o e n hb hx
      exact ⟨sl, (hs.2 b (Nat.ne_of_lt (Nat.lt_of_lt_of_le (Heap.lt_size e) (I.ok.cab x c hfn hc)))).trans e1⟩
    · obtain ⟨o', e1⟩ := I.base.there b o e hx
      exact ⟨o', (hs.2 b (Nat.ne_of_lt (Nat.lt_of_lt_of_le (Heap.lt_size e) (I.ok.cab x c hfn hc)))).trans e1⟩
    · by_cases hj : j = i
      · subst hj
        rw [hi] at e1; cases e1
        rw [List.getElem?_set_self hiσ] at e2
        cases e2
        exact ⟨u, r, .inr ⟨.inl hk, c, hc, hc'⟩⟩
      · rw [List.getElem?_set_ne (Ne.symm hj)] at e2
        obtain ⟨u', r', q⟩ := hl j y v' e1 e2 e3
        refine ⟨u', r', ?_⟩
        rcases q with q | ⟨k, c', e, z'⟩
        · exact .inl q
        · refine .inr ⟨k, c', e, z'.sameBut hs ?_⟩
          rintro rfl
          exact hj (nodup_ix hN e1 (I.ok.inj _ _ _ e hc ▸ hi))
    · by_cases hcc : c' = c
      · subst hcc; exact ⟨_, hc'⟩
      · obtain ⟨w2, z2⟩ := I.cell y c' e
        exact ⟨w2, z2.sameBut hs hcc⟩
    · obtain ⟨e, n, ne, nf, d⟩ := I.pin p hp
      refine ⟨(hs.2 p.1 ?_).trans e, n, ne, nf, d⟩
      intro q
      rw [q, hoc] at e
      have q' : oc = p.2 := Option.some.inj e
      exact d w' (by rw [← q']; exact hocd)
theorem store_ok {M : Model} {A : Around} {E : Value → Shared → Prop} {i : Nat} {x : Str} {v : V} {u : Value} {Q : Unit → Shared → Prop} (I : Inv X pins σ H s) (hN : X.N.Nodup) (hi : X.N[i]? = some x) (hx : Loc X.env.scope x) (r : RelV v u)
    (h : ∀ s', Inv X pins (σ.set i (some v)) H s' → Q () s') (hf : X.fn x = true ∨ X.env.scope.names.lookup x = some .local := by first | exact .inl rfl | exact .inr rfl | assumption) : wpAny M A (storeName X.env x u) Q E s :=
  store_ok2 I hN hi hx r (fun s' I' _ => h s' I') hf
/-- behind a call or a block, the state as it is -/
theorem Inv.call' {s' : Shared} {ch : List Addr} (I : Inv X pins σ H s) (ho : s'.os = s.os) (u : Un (frs X.stack) ch H H' s.heap s'.heap) (hok : HOk X.prog X.w H' s'.heap) (hg : AllBare s'.gens)
    (hch : ∀ b ∈ ch, (b ∈ X.ex ∨ X.s₀.heap.objs.size ≤ b) ∧ b ≠ X.env.locals ∧ (∀ x c, X.env.cells.lookup x = some c → c ≠ b) ∧ ∀ p ∈ X.pn ++ pins, p.1 ≠ b) : Inv X pins σ H' s' := by
  obtain ⟨h', g', d', t', o'⟩ := s'
  have e : o' = s.os := ho
  subst e
  exact I.call (g' := g') (t' := t') (d' := d') u hok hg hch
end

/-! ### the judgements -/
/-- an exception: its class, its own dict's address (where it has one), the abstract heap behind it -/
abbrev XK := Value → Option Addr → Hp → Prop
abbrev St := List (Option V)
abbrev VK := V → Hp → Prop
/-- an expression's reading; a test's; an argument list's -/
abbrev TE := St → Hp → VK → Prop
abbrev TT := St → Hp → (Bool → Hp → Prop) → Prop
abbrev TA := St → Hp → (List V → Hp → Prop) → Prop
/-- what is wanted behind a statement -/
structure Ends where
  nx : St → Hp → Prop
  rt : VK
  bk : St → Hp → Prop := fun _ _ => False
  ct : St → Hp → Prop := fun _ _ => False
abbrev TS := Ends → St → Hp → Prop

def EP (X : Cx) (pins : List (Addr × Obj)) (σ : St) (Q : VK) (u : Value) (s' : Shared) : Prop := ∃ v H', Inv X pins σ H' s' ∧ RelV v u ∧ Q v H'
def TP (X : Cx) (pins : List (Addr × Obj)) (σ : St) (Q : Bool → Hp → Prop) (b : Bool) (s' : Shared) : Prop := ∃ H', Inv X pins σ H' s' ∧ Q b H'
def AP (X : Cx) (pins : List (Addr × Obj)) (σ : St) (Q : List V → Hp → Prop) (us : List Value) (s' : Shared) : Prop := ∃ vs H', Inv X pins σ H' s' ∧ Vals vs us ∧ Q vs H'
def SP (X : Cx) (pins : List (Addr × Obj)) (D : Ends) (f : Flow) (s' : Shared) : Prop :=
  match f with
  | .next => ∃ σ' H', Inv X pins σ' H' s' ∧ D.nx σ' H'
  | .brk => ∃ σ' H', Inv X pins σ' H' s' ∧ D.bk σ' H'
  | .cont => ∃ σ' H', Inv X pins σ' H' s' ∧ D.ct σ' H'
  | .ret u => ∃ v σ' H', Inv X pins σ' H' s' ∧ RelV v u ∧ D.rt v H'

def PE (X : Cx) (e : Expr) (t : TE) : Prop :=
  ∀ (pins : List (Addr × Obj)) (s : Shared) (σ : St) (H : Hp) (Q : VK), Inv X pins σ H s → t σ H Q → wpAny (model X.prog X.w) X.A (eval e X.env) (EP X pins σ Q) X.xe s
def PT (X : Cx) (e : Expr) (t : TT) : Prop :=
  ∀ (pins : List (Addr × Obj)) (s : Shared) (σ : St) (H : Hp) (Q : Bool → Hp → Prop), Inv X pins σ H s → t σ H Q → wpAny (model X.prog X.w) X.A (isTrue e X.env (eval e X.env)) (TP X pins σ Q) X.xe s
/-- a test whatever its 'whole' is (and, or) -/
def PW (X : Cx) (e : Expr) (t : TT) : Prop :=
  ∀ (whole : Sem Value) (pins : List (Addr × Obj)) (s : Shared) (σ : St) (H : Hp) (Q : Bool → Hp → Prop), Inv X pins σ H s → t σ H Q → wpAny (model X.prog X.w) X.A (isTrue e X.env whole) (TP X pins σ Q) X.xe s
theorem PW.pt {X : Cx} {e : Expr} {t : TT} (h : PW X e t) : PT X e t := h _
/-- an argument list (no star), from the left -/
def PA (X : Cx) (es : List Expr) (t : TA) : Prop :=
  ∀ (pos : Pos) (pins : List (Addr × Obj)) (s : Shared) (σ : St) (H : Hp) (Q : List V → Hp → Prop), Inv X pins σ H s → t σ H Q → wpAny (model X.prog X.w) X.A (spliced (backTo pos (starEach es X.env))) (AP X pins σ Q) X.xe s
def PS (X : Cx) (st : Stmt) (t : TS) : Prop :=
  ∀ (pins : List (Addr × Obj)) (s : Shared) (σ : St) (H : Hp) (D : Ends), Inv X pins σ H s → t D σ H → wpAny (model X.prog X.w) X.A (exec st X.env) (SP X pins D) X.xe s
def PSs (X : Cx) (st : List Stmt) (t : TS) : Prop :=
  ∀ (pins : List (Addr × Obj)) (s : Shared) (σ : St) (H : Hp) (D : Ends), Inv X pins σ H s → t D σ H → wpAny (model X.prog X.w) X.A (execs st X.env) (SP X pins D) X.xe s
/-- weaken the end -/
theorem thn {α : Type} {t : Sem α} {Q Q' : α → Shared → Prop} {M : Model} {A : Around} {E : Value → Shared → Prop} {s : Shared} (h : wpAny M A t Q E s) (hQ : ∀ a s, Q a s → Q' a s) : wpAny M A t Q' E s := wpAny_mono h hQ fun _ _ x => x
end L2

namespace L2
open PySem PySem.Spec PyProof.Rows
section
variable {X : Cx}


/-! ### names and constants -/
def tVar (i : Nat) : TE := fun σ H Q => ∃ v, σ[i]? = some (some v) ∧ Q v H
def tC (v : V) : TE := fun _ H Q => Q v H
theorem pe_var {i : Nat} {x : Str} {pos : Pos} (hN : X.N[i]? = some x) (hv : Vis X.env.scope x) (hd : (x == ("__debug__" : Str)) = false := by decide) (hcd : (x == ("__classdict__" : Str)) = false := by decide) : PE X (.Name x pos) (tVar i) := by
  intro pins s σ H Q I h
  obtain ⟨v, e, h⟩ := h
  obtain ⟨m, hn, hl⟩ := I.loc
  obtain ⟨u, r, l⟩ := hl i x v hN e hv
  have fin : EP X pins σ Q u s := ⟨v, H, I, r, h⟩
  rcases l with ⟨hk, hm⟩ | ⟨hk, c, hc, hcell⟩
  · exact wpAny_Name (wpAny_loadName_local I.ok.kind hk hn hm fin) hd
  · rcases hk with hk | hk
    · exact wpAny_Name (wpAny_loadName_cell I.ok.kind hk hc hcell fin) hd
    · exact wpAny_Name (wpAny_loadName_free I.ok.kind hk hc hcell fin hcd) hd
theorem pe_int {i j pos} : PE X (.Constant (.int i) j pos) (tC (.int i)) := fun _ _ _ H _ I h => wpAny_Constant_int ⟨.int i, H, I.tok _, ⟨_, rfl⟩, h⟩
theorem pe_bl {b j pos} : PE X (.Constant (.bool b) j pos) (tC (.bl b)) := fun _ _ _ H _ I h => Constant_bool ⟨.bl b, H, I, rfl, h⟩
theorem pe_non {j pos} : PE X (.Constant .none j pos) (tC .non) := fun _ _ _ H _ I h => Constant_none ⟨.non, H, I, rfl, h⟩
theorem pe_str {x j pos} : PE X (.Constant (.str x) j pos) (tC (.str x)) := fun _ _ _ H _ I h => Calls.Constant_str ⟨.str x, H, I.tok _, ⟨_, rfl⟩, h⟩

/-- a global name of the def -/
def Gl (X : Cx) (x : Str) : Prop := X.env.kindOf x = some .globalImplicit
theorem ld_glob {E : Value → Shared → Prop} {pins : List (Addr × Obj)} {s : Shared} {σ : St} {H : Hp} {x : Str} {u : Value} {pos : Pos} {Q : Value → Shared → Prop} (I : Inv X pins σ H s) (hg : Gl X x) (hm : X.mg x = some u) (h : Q u s)
    (hd : (x == ("__debug__" : Str)) = false := by decide) : wpAny (model X.prog X.w) X.A (eval (.Name x pos) X.env) Q E s :=
  Calls.Name_function_global I.ok.kind hg (Calls.loadGlobal_global (by rw [I.ok.glob]; exact I.mod.glob.keeps I.bk) hm h) hd
theorem ld_blt {E : Value → Shared → Prop} {pins : List (Addr × Obj)} {s : Shared} {σ : St} {H : Hp} {x : Str} {u : Value} {pos : Pos} {Q : Value → Shared → Prop} (I : Inv X pins σ H s) (hg : Gl X x) (hm : X.mg x = none) (hv : bootBuiltins x = some u) (h : Q u s)
    (hn : x ≠ "__name__" := by decide) (hd : (x == ("__debug__" : Str)) = false := by decide) : wpAny (model X.prog X.w) X.A (eval (.Name x pos) X.env) Q E s := by
  obtain ⟨mb, h1, h2⟩ := I.mod.blt
  exact Calls.Name_function_global I.ok.kind hg (Calls.loadGlobal_builtin (by rw [I.ok.glob]; exact I.mod.glob.keeps I.bk) hm (by rw [I.ok.blt]; exact h1.keeps I.bk) ((h2 x hn).trans hv) h) hd
/-- a module's constant, a class, a function, as a value -/
theorem pe_glob {x : Str} {v : V} {u : Value} {pos : Pos} (hg : Gl X x) (hm : X.mg x = some u) (r : RelV v u) (hd : (x == ("__debug__" : Str)) = false := by decide) : PE X (.Name x pos) (tC v) :=
  fun _ _ _ H _ I h => ld_glob I hg hm ⟨v, H, I, r, h⟩ hd
theorem pe_bltn {x : Str} {v : V} {u : Value} {pos : Pos} (hg : Gl X x) (hm : X.mg x = none) (hv : bootBuiltins x = some u) (r : RelV v u) (hn : x ≠ "__name__" := by decide) (hd : (x == ("__debug__" : Str)) = false := by decide) : PE X (.Name x pos) (tC v) :=
  fun _ _ _ H _ I h => ld_blt I hg hm hv ⟨v, H, I, r, h⟩ hn hd

/-! ### arithmetic -/
variable {a b : Expr} {ta tb : TE} {pos : Pos}

/-! ### comparisons -/
/-- a comparison as a value, as a test -/
def tB (t : TE) : TT := fun σ H Q => t σ H fun x H1 => ∃ c, x = .bl c ∧ Q c H1
/-- an expression whose value is a bool, as a test -/
theorem pt_val {e : Expr} {t : TE} (h : PE X e t) (he : ∀ whole, isTrue e X.env whole = (do let v ← whole; standAt e.pos; holding [v] (truthy v)) := by intro _; rfl) : PT X e (tB t) := by
  intro pins s σ H Q I hw
  refine isTrue_plain (thn (h pins s σ H _ I hw) fun v s1 ⟨x, H1, I1, r1, q1⟩ => ?_) (he _)
  obtain ⟨d, rfl, q⟩ := q1
  cases r1
  exact wpAny_truthy_bool ⟨H1, I1, q⟩

/-! ### and, or, not -/
variable {tA tB' : TT} {rest : List Expr}
def tAnd (t u : TT) : TT := fun σ H Q => t σ H fun c H1 => if c = true then u σ H1 Q else Q false H1
def tOr (t u : TT) : TT := fun σ H Q => t σ H fun c H1 => if c = true then Q true H1 else u σ H1 Q
def tNot (t : TT) : TT := fun σ H Q => t σ H fun c H1 => Q (!c) H1
theorem pw_and1 (ha : PT X a tA) : PW X (.BoolOp .And [a] pos) tA := by
  intro wh pins s σ H Q I h
  refine isTrue_and (thn (ha pins s σ H Q I h) fun c s1 e => ?_)
  cases c with
  | true => exact isTrue_and_nil e
  | false => exact e
theorem pw_or1 (ha : PT X a tA) : PW X (.BoolOp .Or [a] pos) tA := by
  intro wh pins s σ H Q I h
  refine isTrue_or (thn (ha pins s σ H Q I h) fun c s1 e => ?_)
  cases c with
  | false => exact isTrue_or_nil e
  | true => exact e
theorem pw_and (ha : PT X a tA) (hb : PW X (.BoolOp .And (b :: rest) pos) tB') : PW X (.BoolOp .And (a :: b :: rest) pos) (tAnd tA tB') := by
  intro wh pins s σ H Q I h
  refine isTrue_and (thn (ha pins s σ H _ I h) fun c s1 ⟨H1, I1, q1⟩ => ?_)
  cases c with
  | true => exact hb wh pins s1 σ H1 Q I1 q1
  | false => exact ⟨H1, I1, q1⟩
theorem pw_or (ha : PT X a tA) (hb : PW X (.BoolOp .Or (b :: rest) pos) tB') : PW X (.BoolOp .Or (a :: b :: rest) pos) (tOr tA tB') := by
  intro wh pins s σ H Q I h
  refine isTrue_or (thn (ha pins s σ H _ I h) fun c s1 ⟨H1, I1, q1⟩ => ?_)
  cases c with
  | true => exact ⟨H1, I1, q1⟩
  | false => exact hb wh pins s1 σ H1 Q I1 q1
theorem pt_not (ha : PT X a tA) : PT X (.UnaryOp .Not a pos) (tNot tA) := by
  intro pins s σ H Q I h
  exact isTrue_not (ha pins s σ H (fun c H1 => Q (!c) H1) I h)
/-- .. as values (bools) -/
def tAndV (ta tb : TE) : TE := fun σ H Q => ta σ H fun x H1 => ∃ c, x = .bl c ∧ if c = true then tb σ H1 Q else Q (.bl false) H1
def tOrV (ta tb : TE) : TE := fun σ H Q => ta σ H fun x H1 => ∃ c, x = .bl c ∧ if c = true then Q (.bl true) H1 else tb σ H1 Q
def tNotV (ta : TE) : TE := fun σ H Q => ta σ H fun x H1 => ∃ c, x = .bl c ∧ Q (.bl (!c)) H1
theorem pe_one {op} {t : TE} (h : PE X a t) : PE X (.BoolOp op [a] pos) t := fun pins s σ H Q I hw => BoolOp_one (h pins s σ H Q I hw)
theorem pe_and (ha : PE X a ta) (hb : PE X (.BoolOp .And (b :: rest) pos) tb) : PE X (.BoolOp .And (a :: b :: rest) pos) (tAndV ta tb) := by
  intro pins s σ H Q I h
  refine BoolOp_and (thn (ha pins s σ H _ I h) fun v s1 ⟨x, H1, I1, r1, q1⟩ => ?_)
  obtain ⟨c, rfl, q1⟩ := q1
  cases r1
  refine wpAny_truthy_bool ?_
  cases c with
  | true => exact hb pins s1 σ H1 Q I1 q1
  | false => exact ⟨.bl false, H1, I1, rfl, q1⟩
theorem pe_or (ha : PE X a ta) (hb : PE X (.BoolOp .Or (b :: rest) pos) tb) : PE X (.BoolOp .Or (a :: b :: rest) pos) (tOrV ta tb) := by
  intro pins s σ H Q I h
  refine BoolOp_or (thn (ha pins s σ H _ I h) fun v s1 ⟨x, H1, I1, r1, q1⟩ => ?_)
  obtain ⟨c, rfl, q1⟩ := q1
  cases r1
  refine wpAny_truthy_bool ?_
  cases c with
  | false => exact hb pins s1 σ H1 Q I1 q1
  | true => exact ⟨.bl true, H1, I1, rfl, q1⟩
theorem pe_not (ha : PE X a ta) : PE X (.UnaryOp .Not a pos) (tNotV ta) := by
  intro pins s σ H Q I h
  refine UnaryOp_ (thn (ha pins s σ H _ I h) fun v s1 ⟨x, H1, I1, r1, q1⟩ => ?_)
  obtain ⟨c, rfl, q1⟩ := q1
  cases r1
  exact not_of (wpAny_truthy_bool ⟨.bl (!c), H1, I1, rfl, q1⟩)
/-- a if t else b -/
def tIf (t : TT) (ta tb : TE) : TE := fun σ H Q => t σ H fun c H1 => if c = true then ta σ H1 Q else tb σ H1 Q
theorem pe_ifExp {c : Expr} (hc : PT X c tA) (ha : PE X a ta) (hb : PE X b tb) : PE X (.IfExp c a b pos) (tIf tA ta tb) := by
  intro pins s σ H Q I h
  refine wpAny_IfExp (thn (hc pins s σ H _ I h) fun d s1 ⟨H1, I1, q1⟩ => ?_)
  cases d with
  | true => exact ha pins s1 σ H1 Q I1 q1
  | false => exact hb pins s1 σ H1 Q I1 q1
end
end L2

namespace L2
open PySem PySem.Spec PyProof.Rows

/-! ### a list, a tuple that is read: tracked, frozen, or an object of the module -/
def SqL (K : PySem.W.Frag) (H : Hp) (a : Addr) (xs : List V) : Prop :=
  Rd H a (.lst xs) ∨
    ∃ (o : Obj) (its : Array Value) (n : Nat), K.lookup a = some o ∧ o.cls = .type "list" ∧ o.dict = none ∧ o.data = .seq its n ∧ its.size ≤ sizeLine ∧ Vals xs its.toList
def SqT (K : PySem.W.Frag) (H : Hp) (a : Addr) (xs : List V) : Prop :=
  Rd H a (.tup xs) ∨
    ∃ (o : Obj) (its : Array Value) (n : Nat), K.lookup a = some o ∧ o.cls = .type "tuple" ∧ o.data = .seq its n ∧ its.size ≤ sizeLine ∧ Vals xs its.toList
def absV : Value → Option V
  | .none => some .non
  | .bool b => some (.bl b)
  | .int i _ => some (.int i)
  | .str x _ => some (.str x)
  | .bytes b _ => some (.byt b)
  | .float b _ => some (.flt b)
  | .ref a => some (.ref a)
  | .type n => some (.ty n)
  | _ => none
theorem RelV.abs {x : V} {u : Value} (r : RelV x u) : absV u = some x := by
  cases x with
  | non => cases r; rfl
  | bl _ => cases r; rfl
  | int _ => obtain ⟨t, rfl⟩ := r; rfl
  | str _ => obtain ⟨t, rfl⟩ := r; rfl
  | byt _ => obtain ⟨t, rfl⟩ := r; rfl
  | flt _ => obtain ⟨t, rfl⟩ := r; rfl
  | ref _ => cases r; rfl
  | ty _ => cases r; rfl
theorem RelV.inj {x y : V} {u : Value} (r : RelV x u) (q : RelV y u) : x = y := Option.some.inj (r.abs.symm.trans q.abs)
theorem Vals.inj : ∀ {xs ys : List V} {us : List Value}, Vals xs us → Vals ys us → xs = ys
  | _, _, _, .nil, .nil => rfl
  | _, _, _, .cons r t, .cons r' t' => by rw [r.inj r', Vals.inj t t']
section
variable {X : Cx} {pins : List (Addr × Obj)} {σ : St} {H : Hp} {s : Shared} {a : Addr} {xs ys : List V}
theorem SqL.of {K : PySem.W.Frag} (h : H a = some (.lst xs)) : SqL K H a xs := .inl (.inl h)
theorem SqT.of {K : PySem.W.Frag} (h : H a = some (.tup xs)) : SqT K H a xs := .inl (.inl h)
theorem Inv.list (I : Inv X pins σ H s) (h : SqL X.K H a xs) : ∃ its : List Value, Vals xs its ∧ PlainL s.heap a its.toArray ∧ xs.length ≤ sizeLine := by
  rcases h with h | ⟨o, its, n, hk, hc, hd, hs, hz, r⟩
  · obtain ⟨z, its, n, r, e⟩ := h.ok I.hok
    exact ⟨its, r, ⟨_, n, e, rfl, rfl, rfl⟩, z⟩
  · refine ⟨its.toList, r, ⟨o, n, I.kIn a o hk, hc, hd, by simpa using hs⟩, ?_⟩
    have e := r.length
    simp only [Array.length_toList] at e
    omega
theorem Inv.tuple (I : Inv X pins σ H s) (h : SqT X.K H a xs) : ∃ its : List Value, Vals xs its ∧ IsTup s.heap a its.toArray ∧ xs.length ≤ sizeLine := by
  rcases h with h | ⟨o, its, n, hk, hc, hs, hz, r⟩
  · obtain ⟨z, its, r, p⟩ := h.ok I.hok
    exact ⟨its, r, p, z⟩
  · refine ⟨its.toList, r, ⟨o, I.kIn a o hk, hc, n, by simpa using hs⟩, ?_⟩
    have e := r.length
    simp only [Array.length_toList] at e
    omega
theorem Inv.list_inj (I : Inv X pins σ H s) (h : SqL X.K H a xs) (h' : SqL X.K H a ys) : xs = ys := by
  obtain ⟨its, r, ⟨o, n, e, _, _, d⟩, _⟩ := I.list h
  obtain ⟨its', r', ⟨o', n', e', _, _, d'⟩, _⟩ := I.list h'
  rw [e] at e'; cases e'
  rw [d] at d'
  injection d' with d1 _
  have : its = its' := by simpa using congrArg Array.toList d1
  subst this
  exact r.inj r'
theorem Inv.tuple_inj (I : Inv X pins σ H s) (h : SqT X.K H a xs) (h' : SqT X.K H a ys) : xs = ys := by
  obtain ⟨its, r, ⟨o, e, _, n, d⟩, _⟩ := I.tuple h
  obtain ⟨its', r', ⟨o', e', _, n', d'⟩, _⟩ := I.tuple h'
  rw [e] at e'; cases e'
  rw [d] at d'
  injection d' with d1 _
  have : its = its' := by simpa using congrArg Array.toList d1
  subst this
  exact r.inj r'
end

/-! ### another wish about exceptions -/
abbrev Cx.wish (X : Cx) (E : Value → Shared → Prop) : Cx := { X with xe := E }
/-- no exception leaves -/
abbrev Cx.nox (X : Cx) : Cx := X.wish fun _ _ => False
theorem Cx.Ok.wish {X : Cx} (ok : X.Ok) (E : Value → Shared → Prop) : (X.wish E).Ok :=
  ⟨ok.mod, ok.kind, ok.glob, ok.blt, ok.above, ok.inj, ok.has, ok.cab, ok.hd, ok.frames, ok.stk, ok.exf, ok.bs, ok.bsz, ok.noex, ok.exfs, ok.funs, ok.frf⟩
theorem Cx.Ok.unwish {X : Cx} {E : Value → Shared → Prop} (ok : (X.wish E).Ok) : X.Ok :=
  ⟨ok.mod, ok.kind, ok.glob, ok.blt, ok.above, ok.inj, ok.has, ok.cab, ok.hd, ok.frames, ok.stk, ok.exf, ok.bs, ok.bsz, ok.noex, ok.exfs, ok.funs, ok.frf⟩
section
variable {X : Cx} {pins : List (Addr × Obj)} {σ : St} {H : Hp} {s : Shared} {E : Value → Shared → Prop}
theorem Inv.wish (I : Inv X pins σ H s) (E : Value → Shared → Prop) : Inv (X.wish E) pins σ H s := ⟨I.ok.wish E, I.os, I.bare, I.base, I.loc, I.cell, I.free, I.freeC, I.pin, I.hok, I.len⟩
theorem Inv.unwish (I : Inv (X.wish E) pins σ H s) : Inv X pins σ H s := ⟨I.ok.unwish, I.os, I.bare, I.base, I.loc, I.cell, I.free, I.freeC, I.pin, I.hok, I.len⟩
theorem SP.unwish {D : Ends} {f : Flow} {s' : Shared} (h : SP (X.wish E) pins D f s') : SP X pins D f s' := by
  cases f with
  | next => obtain ⟨σ', H', I, q⟩ := h; exact ⟨σ', H', I.unwish, q⟩
  | brk => obtain ⟨σ', H', I, q⟩ := h; exact ⟨σ', H', I.unwish, q⟩
  | cont => obtain ⟨σ', H', I, q⟩ := h; exact ⟨σ', H', I.unwish, q⟩
  | ret u => obtain ⟨v, σ', H', I, r, q⟩ := h; exact ⟨v, σ', H', I.unwish, r, q⟩
theorem PE.nox {e : Expr} {t : TE} (h : PE X.nox e t) : PE X e t := fun pins s σ H Q I hw =>
  wpAny_mono (h pins s σ H Q (I.wish _) hw) (fun _ _ ⟨v, H', I', r, q⟩ => ⟨v, H', I'.unwish, r, q⟩) fun _ _ z => False.elim z
theorem PT.nox {e : Expr} {t : TT} (h : PT X.nox e t) : PT X e t := fun pins s σ H Q I hw =>
  wpAny_mono (h pins s σ H Q (I.wish _) hw) (fun _ _ ⟨H', I', q⟩ => ⟨H', I'.unwish, q⟩) fun _ _ z => False.elim z
theorem PSs.nox {st : List Stmt} {t : TS} (h : PSs X.nox st t) : PSs X st t := fun pins s σ H D I hw =>
  wpAny_mono (h pins s σ H D (I.wish _) hw) (fun _ _ q => q.unwish) fun _ _ z => False.elim z
end

/-! ### blocks and small statements -/
section
variable {X : Cx} {st : Stmt} {rest : List Stmt} {t u : TS} {e : Expr} {te : TE} {pos : Pos}
def tNext : TS := fun D σ H => D.nx σ H
def tSeq (t u : TS) : TS := fun D σ H => t { D with nx := u D } σ H
theorem pss_nil : PSs X [] tNext := fun _ _ σ H _ I h => wpAny_execs_nil ⟨σ, H, I, h⟩
theorem pss_cons (h1 : PS X st t) (h2 : PSs X rest u) : PSs X (st :: rest) (tSeq t u) := by
  intro pins s σ H D I h
  refine wpAny_execs_cons (thn (h1 pins s σ H { D with nx := u D } I h) fun f s1 q => ?_)
  cases f with
  | next =>
    obtain ⟨σ', H', I', q⟩ := q
    exact h2 pins s1 σ' H' D I' q
  | ret v => exact q
  | brk => exact q
  | cont => exact q
theorem pss_one (h1 : PS X st t) : PSs X [st] t := by
  intro pins s σ H D I h
  refine wpAny_execs_cons (thn (h1 pins s σ H D I h) fun f s1 q => ?_)
  cases f with
  | next => exact wpAny_execs_nil q
  | ret v => exact q
  | brk => exact q
  | cont => exact q
/-- in a def's body nothing is shown -/
theorem Inv.quiet {pins : List (Addr × Obj)} {σ : St} {H : Hp} {s : Shared} (I : Inv X pins σ H s) : interactive X.env = false := by simp [interactive, I.ok.kind]
/-- an expression whose value is dropped -/
def tDrop (te : TE) : TS := fun D σ H => te σ H fun _ H1 => D.nx σ H1
theorem ps_expr (he : PE X e te) (hs : swapsWith e none pos.line X.env = pure false := by rfl) : PS X (.Expr e pos) (tDrop te) := by
  intro pins s σ H D I h
  exact wpAny_Expr_any (thn (he pins s σ H _ I h) fun v s1 ⟨x, H1, I1, r1, q1⟩ => ⟨σ, H1, I1, q1⟩) I.quiet hs
def tRet (te : TE) : TS := fun D σ H => te σ H D.rt
theorem ps_ret (he : PE X e te) : PS X (.Return (some e) pos) (tRet te) := by
  intro pins s σ H D I h
  exact wpAny_Return_some (thn (he pins s σ H _ I h) fun v s1 ⟨x, H1, I1, r1, q1⟩ => ⟨x, σ, H1, I1, r1, q1⟩)
def tIfS (c : TT) (t u : TS) : TS := fun D σ H => c σ H fun b H1 => if b = true then t D σ H1 else u D σ H1
theorem ps_if {c : Expr} {a b : List Stmt} {tc : TT} (hc : PT X c tc) (ha : PSs X a t) (hb : PSs X b u) : PS X (.If c a b pos) (tIfS tc t u) := by
  intro pins s σ H D I h
  refine wpAny_If (thn (hc pins s σ H _ I h) fun d s1 ⟨H1, I1, q1⟩ => ?_)
  cases d with
  | true => exact ha pins s1 σ H1 D I1 q1
  | false => exact hb pins s1 σ H1 D I1 q1
end

/-! ### targets -/
abbrev TG := V → St → Hp → (St → Hp → Prop) → Prop
abbrev TGs := List V → St → Hp → (St → Hp → Prop) → Prop
def PG (X : Cx) (target : Expr) (t : TG) : Prop :=
  ∀ (pins : List (Addr × Obj)) (s : Shared) (σ : St) (H : Hp) (v : V) (u : Value) (Q : St → Hp → Prop), Inv X pins σ H s → RelV v u → t v σ H Q →
    wpAny (model X.prog X.w) X.A (assign target X.env u) (fun _ s' => ∃ σ' H', Inv X pins σ' H' s' ∧ Q σ' H') X.xe s
/-- several targets, one after another -/
def PGs (X : Cx) (ts : List Expr) (t : TGs) : Prop :=
  ∀ (pins : List (Addr × Obj)) (s : Shared) (σ : St) (H : Hp) (vs : List V) (us : List Value) (Q : St → Hp → Prop), Inv X pins σ H s → Vals vs us → t vs σ H Q →
    wpAny (model X.prog X.w) X.A (assignInOrder ((assignEach ts X.env).map (·.2)) us) (fun _ s' => ∃ σ' H', Inv X pins σ' H' s' ∧ Q σ' H') X.xe s
/-- o[i] = v, by values -/
abbrev TSet := V → V → V → Hp → (Hp → Prop) → Prop
def PSet (X : Cx) (t : TSet) : Prop :=
  ∀ (pins : List (Addr × Obj)) (s : Shared) (σ : St) (H : Hp) (o i v : V) (ov iv u : Value) (Q : Hp → Prop), Inv X pins σ H s → RelV o ov → RelV i iv → RelV v u → t o i v H Q →
    wpAny (model X.prog X.w) X.A (setItem ov iv u) (fun _ s' => ∃ H', Inv X pins σ H' s' ∧ Q H') X.xe s
section
variable {X : Cx} {pos : Pos}
def gName (i : Nat) : TG := fun v σ H Q => Q (σ.set i (some v)) H
theorem pg_name {i : Nat} {x : Str} (hN : X.N.Nodup) (hi : X.N[i]? = some x) (hx : Loc X.env.scope x) (hf : X.fn x = true ∨ X.env.scope.names.lookup x = some .local := by first | exact .inl rfl | exact .inr rfl | assumption) : PG X (.Name x pos) (gName i) := by
  intro pins s σ H v u Q I r h
  exact wpAny_assign_Name (store_ok I hN hi hx r (fun s' I' => ⟨_, H, I', h⟩) hf)
def gNil : TGs := fun vs σ H Q => vs = [] ∧ Q σ H
def gCons (t : TG) (u : TGs) : TGs := fun vs σ H Q => ∃ v r, vs = v :: r ∧ t v σ H fun σ' H' => u r σ' H' Q
theorem pgs_nil : PGs X [] gNil := by
  intro pins s σ H vs us Q I r h
  obtain ⟨e, h⟩ := h
  subst e
  cases r
  exact assignInOrder_nil ⟨σ, H, I, h⟩
theorem pgs_cons {e : Expr} {es : List Expr} {t : TG} {u : TGs} (h1 : PG X e t) (h2 : PGs X es u)
    (hs : (assignEach (e :: es) X.env).map (·.2) = assign e X.env :: (assignEach es X.env).map (·.2) := by rfl) : PGs X (e :: es) (gCons t u) := by
  intro pins s σ H vs us Q I r h
  obtain ⟨v, vr, e1, h⟩ := h
  subst e1
  cases r with
  | cons r rr =>
    rw [hs]
    refine assignInOrder_cons (thn (h1 pins s σ H _ _ _ I r h) fun _ s1 ⟨σ1, H1, I1, q1⟩ => ?_)
    exact h2 pins s1 σ1 H1 _ _ Q I1 rr q1
/-- (a, b, ..) = a tuple of that length -/
def gTup (K : PySem.W.Frag) (n : Nat) (t : TGs) : TG := fun v σ H Q => ∃ a xs, v = .ref a ∧ SqT K H a xs ∧ xs.length = n ∧ t xs σ H Q
theorem pg_tup {es : List Expr} {k : Nat} {t : TGs} {n : Nat} (hc : X.calm = true) (h : PGs X es t)
    (hn : (assignEach es X.env).length = n := by rfl) (hst : (assignEach es X.env).findIdx? (·.1) = none := by rfl) : PG X (.Tuple es k pos) (gTup X.K n t) := by
  intro pins s σ H v u Q I r hw
  obtain ⟨a, xs, e1, hq, hl, hw⟩ := hw
  subst e1
  cases r
  obtain ⟨its, rv, ht, hz⟩ := I.tuple hq
  refine assign_Tuple_tuple (I.ok.hd hc) ht (by simp [hn, ← hl, rv.length]) hst fun h' hx => ?_
  have I1 : Inv X pins σ H { s with heap := h' } := I.kept (t' := s.toks) fun b o e => hx b o (Nat.ne_of_lt (Heap.lt_size e)) e
  exact h pins _ σ H xs _ Q I1 (by simpa using rv) hw
/-- o[i] = .. -/
def gSub (to ti : TE) (t : TSet) : TG := fun v σ H Q => to σ H fun o H1 => ti σ H1 fun i H2 => t o i v H2 fun H3 => Q σ H3
theorem pg_sub {o i : Expr} {to ti : TE} {t : TSet} (ho : PE X o to) (hi : PE X i ti) (hs : PSet X t)
    (ha : ∀ v, assign (.Subscript o i pos) X.env v = (do
      let ov ← holding [v] (eval o X.env)
      let iv ← holding [v, ov] (eval i X.env)
      standAt pos
      holding [v, ov, iv] (setItem ov iv v)
      release [v, ov, iv] []) := by intro _; rfl) : PG X (.Subscript o i pos) (gSub to ti t) := by
  intro pins s σ H v u Q I r h
  rw [ha]
  refine wpAny_bind (wpAny_holding (thn (ho pins s σ H _ I h) fun ov s1 ⟨x, H1, I1, r1, q1⟩ => ?_))
  refine wpAny_bind (wpAny_holding (thn (hi pins s1 σ H1 _ I1 q1) fun iv s2 ⟨y, H2, I2, r2, q2⟩ => ?_))
  refine wpAny_bind (wpAny_standAt (wpAny_bind (wpAny_holding (thn (hs pins s2 σ H2 x y v ov iv u _ I2 r1 r2 r q2) fun _ s3 ⟨H3, I3, q3⟩ => ?_))))
  exact wpAny_release ⟨σ, H3, I3, q3⟩
/-- target = value -/
def tAsg (te : TE) (g : TG) : TS := fun D σ H => te σ H fun x H1 => g x σ H1 D.nx
theorem ps_asg {tg e : Expr} {te : TE} {g : TG} (he : PE X e te) (hg : PG X tg g) (hs : swapsWithSole [tg] e pos.line X.env = pure false := by rfl) (hw : swappedStores [tg] e X.env = pure none := by rfl)
    (h1 : (assignEach [tg] X.env).map (·.2) = [assign tg X.env] := by rfl) : PS X (.Assign [tg] e pos) (tAsg te g) := by
  intro pins s σ H D I h
  refine wpAny_Assign_stores (thn (he pins s σ H _ I h) fun v s1 ⟨x, H1, I1, r1, q1⟩ => ?_) hs hw
  rw [h1]
  exact thn (hg pins s1 σ H1 x v _ I1 r1 q1) fun _ s2 q => q
/-- name = value -/
theorem ps_set {i : Nat} {x : Str} {e : Expr} {te : TE} {pos' : Pos} (hN : X.N.Nodup) (hi : X.N[i]? = some x) (hx : Loc X.env.scope x) (he : PE X e te) (hs : swapsWith e (some (.Name x pos')) pos.line X.env = pure false := by rfl) (hf : X.fn x = true ∨ X.env.scope.names.lookup x = some .local := by first | exact .inl rfl | exact .inr rfl | assumption) :
    PS X (.Assign [.Name x pos'] e pos) (tAsg te (gName i)) := by
  intro pins s σ H D I h
  refine wpAny_Assign_Name (thn (he pins s σ H _ I h) fun v s1 ⟨y, H1, I1, r1, q1⟩ => ?_) hs
  exact store_ok I1 hN hi hx r1 (fun s2 I2 => ⟨_, H1, I2, q1⟩) hf
/-- a, b = x, y with plain local names: stored from the right; the pair itself is not tracked (the opening rows as in PyProof/Rows/TupAssign.lean:23) -/
def tPar (i j : Nat) (ta : TA) : TS := fun D σ H => ta σ H fun vs H1 => ∃ v w, vs = [v, w] ∧ D.nx ((σ.set i (some v)).set j (some w)) H1
theorem ps_par {i j : Nat} {x y : Str} {a b : Expr} {ta : TA} {px py pt : Pos} {kt k2 pt2} (hc : X.calm = true) (hN : X.N.Nodup) (hi : X.N[i]? = some x) (hj : X.N[j]? = some y) (hij : i ≠ j)
    (hx : X.env.scope.names.lookup x = some .local) (hy : X.env.scope.names.lookup y = some .local) (ha : PA X [a, b] ta)
    (hw : swappedStores [.Tuple [.Name x px, .Name y py] kt pt] (.Tuple [a, b] k2 pt2) X.env = pure (some [x, y]))
    (hs : swapsWithSole [.Tuple [.Name x px, .Name y py] kt pt] (.Tuple [a, b] k2 pt2) pos.line X.env = pure false := by rfl) :
    PS X (.Assign [.Tuple [.Name x px, .Name y py] kt pt] (.Tuple [a, b] k2 pt2) pos) (tPar i j ta) := by
  intro pins s σ H D I h
  rw [exec_Assign_arm]
  refine wpAny_bind (wpAny_standAt ?_)
  rw [hs]
  refine wpAny_bind (wpAny_pure ?_)
  rw [if_neg (by decide)]
  refine wpAny_bind (Tuple_ (thn (ha _ pins s σ H _ I h) fun us s1 ⟨vs, H1, I1, r1, q1⟩ => ?_))
  obtain ⟨v, w, e1, q1⟩ := q1
  subst e1
  obtain ⟨u1, u2, rfl, rv, rw'⟩ : ∃ u1 u2, us = [u1, u2] ∧ RelV v u1 ∧ RelV w u2 := by
    cases r1 with
    | cons p q =>
      cases q with
      | cons p' q' =>
        cases q'
        exact ⟨_, _, rfl, p, p'⟩
  refine wpAny_newObj_type ?_ (by show 2 ≤ sizeLine; decide)
  have I2 : Inv X pins σ H1 { s1 with heap := s1.heap.push { cls := .type "tuple", data := .seq [u1, u2].toArray } } := I1.kept (t' := s1.toks) fun b o e => Heap.get?_push_of_some _ e
  rw [hw]
  refine wpAny_bind (wpAny_pure ?_)
  show wpAny (model X.prog X.w) X.A (do rule "assign.swapped-stores"; let items ← unpackItems (.ref s1.heap.objs.size) 2 none; assignInOrder [fun v => bindName X.env y v, fun v => bindName X.env x v] items.reverse; pure Flow.next) _ _ _
  refine wpAny_bind (wpAny_rule (wpAny_bind (unpackItems_tuple (items := #[u1, u2]) (I.ok.hd hc) (IsTup.new s1.heap _) fun h' hx' => ?_)))
  have I3 := I2.kept (h' := h') (t' := s1.toks) fun b o e => hx' b o (Nat.ne_of_lt (Heap.lt_size e)) e
  show wpAny _ _ (assignInOrder [fun v => bindName X.env y v, fun v => bindName X.env x v] [u2, u1] >>= fun _ => pure Flow.next) _ _ _
  refine wpAny_bind (assignInOrder_cons (wpAny_bindName (store_ok I3 hN hj (.inl hy) rw' (fun s2 I4 => ?_) (.inr hy))))
  refine assignInOrder_cons (wpAny_bindName (store_ok I4 hN hi (.inl hx) rv (fun s3 I5 => assignInOrder_nil (wpAny_pure ?_)) (.inr hx)))
  rw [List.set_comm _ _ (Ne.symm hij)] at I5
  exact ⟨_, H1, I5, q1⟩
end

/-! ### while -/
section
variable {X : Cx} {pos : Pos}
end

/-! ### what a loop or a comprehension walks -/
/-- at turn i: it yields x (the heap may grow), or it stops -/
structure It where
  go : Nat → Hp → Prop
  yld : Nat → Hp → V → Hp → Prop
  stop : Nat → Hp → Prop
/-- the iterator's own objects may turn: they are not the frame's, not pinned, younger than the entry (or a comprehension's own) -/
def FpOk (X : Cx) (pins : List (Addr × Obj)) (H : Hp) (b : Addr) : Prop :=
  H b = none ∧ b ≠ X.env.locals ∧ b ∉ X.fs ∧ (b ∈ X.ex ∨ X.s₀.heap.objs.size ≤ b) ∧ (∀ x c, X.env.cells.lookup x = some c → c ≠ b) ∧ ∀ p ∈ X.pn ++ pins, p.1 ≠ b
theorem Inv.fpOk {X : Cx} {pins : List (Addr × Obj)} {σ : St} {H H' : Hp} {s : Shared} {b : Addr} (I : Inv X pins σ H s) (hb : s.heap.objs.size ≤ b) (hn : H' b = none) : FpOk X pins H' b := by
  refine ⟨hn, Nat.ne_of_gt (Nat.lt_of_lt_of_le I.lt hb), I.nofs hb, .inr (Nat.le_trans I.sz hb), fun x c e z => ?_, fun p hp z => ?_⟩
  · obtain ⟨v, q⟩ := I.cell x c e
    exact absurd (Nat.lt_of_lt_of_le q.lt (by rw [z]; exact hb)) (Nat.lt_irrefl _)
  · exact absurd (Nat.lt_of_lt_of_le (Heap.lt_size (I.pin p hp).1) (by rw [z]; exact hb)) (Nat.lt_irrefl _)
structure Turn (P : Program) (w : World) (K : PySem.W.Frag) (tg : Expr) (J : It) (fp : List Addr) (it : Addr) (tn : Nat → Heap → Prop) : Prop where
  mem : it ∈ fp
  obj : ∀ i h, tn i h → ∀ b ∈ fp, ∃ o, h.get? b = some o ∧ ∀ v, o.data ≠ .cell v
  keep : ∀ i h h', tn i h → (∀ b ∈ fp, ∀ o, h.get? b = some o → h'.get? b = some o) → tn i h'
  item : ∀ (X : Cx), X.prog = P → X.w = w → X.K = K → X.calm = true → ∀ (i : Nat) (pins : List (Addr × Obj)) (s : Shared) (σ : St) (H : Hp) (E : Value → Shared → Prop), Inv X pins σ H s → (∀ b ∈ fp, FpOk X pins H b) → tn i s.heap → J.go i H →
    wpAny (model P w) X.A (pyNext (.ref it)) (fun r s1 => ∃ u, r = some u ∧
      wpAny (model P w) X.A (letOwnedTupleGo tg (.ref it) u) (fun _ s2 => ∃ x H', Inv X pins σ H' s2 ∧ RelV x u ∧ J.yld i H x H' ∧ tn (i + 1) s2.heap ∧ ∀ b ∈ fp, H' b = none) E s1) E s
  done : ∀ (X : Cx), X.prog = P → X.w = w → X.K = K → X.calm = true → ∀ (i : Nat) (pins : List (Addr × Obj)) (s : Shared) (σ : St) (H : Hp) (E : Value → Shared → Prop), Inv X pins σ H s → (∀ b ∈ fp, FpOk X pins H b) → tn i s.heap → J.stop i H →
    wpAny (model P w) X.A (pyNext (.ref it)) (fun r s1 => r = none ∧ Inv X pins σ H s1) E s
  self : ∀ (A : Around) (i : Nat) (s : Shared) (Q : Value → Shared → Prop) (E : Value → Shared → Prop), tn i s.heap → Q (.ref it) s → wpAny (model P w) A (pyIter (.ref it)) Q E s
abbrev TI := St → Hp → (It → Hp → Prop) → Prop
/-- an iterator has come -/
def PIE (X : Cx) (pins : List (Addr × Obj)) (σ : St) (tg : Expr) (R : It → Hp → Prop) (itv : Value) (s2 : Shared) : Prop :=
  ∃ (it : Addr) (fp : List Addr) (tn : Nat → Heap → Prop) (J : It) (H' : Hp), itv = .ref it ∧ Inv X pins σ H' s2 ∧ Turn X.prog X.w X.K tg J fp it tn ∧ tn 0 s2.heap ∧ (∀ b ∈ fp, FpOk X pins H' b) ∧ R J H'
def PI (X : Cx) (tg iter : Expr) (wi : TI) : Prop :=
  ∀ (pins : List (Addr × Obj)) (s : Shared) (σ : St) (H : Hp) (R : It → Hp → Prop), Inv X pins σ H s → wi σ H R →
    wpAny (model X.prog X.w) X.A (eval iter X.env) (fun v s1 => wpAny (model X.prog X.w) X.A (pyIter v) (PIE X pins σ tg R) X.xe s1) X.xe s

/-- the step ahead of the store is nothing for an iterator that keeps no tuple -/
theorem go_of {M : Model} {A : Around} {E : Value → Shared → Prop} {s : Shared} {tg : Expr} {it : Addr} {u : Value} {o : Obj} {n : String} {vs : Array Value} {Q : Unit → Shared → Prop} (ho : s.heap.get? it = some o) (hc : o.cls = .type n) (hd : o.data = .fields vs)
    (hn : ["enumerate", "zip", "dict_itemiterator", "dict_reverseitemiterator", "odict_iterator", "itertools.zip_longest", "itertools.pairwise"].contains n = false) (hQ : Q () s) : wpAny M A (letOwnedTupleGo tg (.ref it) u) Q E s := by
  unfold letOwnedTupleGo
  cases tg <;> first
    | exact wpAny_pure hQ
    | (cases u <;> first
        | exact wpAny_pure hQ
        | (refine wpAny_bind (wpAny_load ho ?_)
           rw [hc, hd]
           show wpAny M A (if (["enumerate", "zip", "dict_itemiterator", "dict_reverseitemiterator", "odict_iterator", "itertools.zip_longest", "itertools.pairwise"].contains n && vs[0]? == some (rawInt _)) = true then _ else _) Q E s
           rw [if_neg (by intro h; rw [hn, Bool.false_and] at h; cases h)]
           exact wpAny_pure hQ))

/-- the list at a, as it stands at each turn (a loop may append to it) -/
def Itl (K : PySem.W.Frag) (a : Addr) : It :=
  ⟨fun i H => ∃ xs x, SqL K H a xs ∧ xs[i]? = some x, fun i H x H' => H' = H ∧ ∀ xs, SqL K H a xs → xs[i]? = some x, fun i H => ∃ xs, SqL K H a xs ∧ xs.length ≤ i⟩
def Itt (K : PySem.W.Frag) (a : Addr) : It :=
  ⟨fun i H => ∃ xs x, SqT K H a xs ∧ xs[i]? = some x, fun i H x H' => H' = H ∧ ∀ xs, SqT K H a xs → xs[i]? = some x, fun i H => ∃ xs, SqT K H a xs ∧ xs.length ≤ i⟩
/-- lo, lo + 1, .. (n of them) -/
def Itr (lo : Int) (n : Nat) : It := ⟨fun i _ => i < n, fun i H x H' => H' = H ∧ x = .int (lo + i), fun i _ => n ≤ i⟩
theorem turn_list {P : Program} {w : World} {K : PySem.W.Frag} {tg : Expr} (a it : Addr) : Turn P w K tg (Itl K a) [it] it (fun i h => h.IsListIter it a i) where
  mem := by simp
  obj := fun i h st b hb => by
    have e : b = it := by simpa using hb
    subst e
    obtain ⟨o, e, c, d⟩ := st
    exact ⟨o, e, fun v z => by rw [d] at z; cases z⟩
  keep := fun i h h' st k => st.at fun o e => k it (by simp) o e
  item := by
    intro X hP hw hK hc i pins s σ H E I hf st hg
    subst hP hw hK
    obtain ⟨xs, x, hq, hx⟩ := hg
    obtain ⟨its, rv, p, hz⟩ := I.list hq
    obtain ⟨u, hu, ru⟩ := rv.get hx
    obtain ⟨f0, f1, f2, f3, f4, f5⟩ := hf it (by simp)
    refine wpAny_pyNext_list_item st p.isList (x := u) (by simpa using hu) fun h' st' sb => ?_
    have I1 : Inv X pins σ H { s with heap := h' } := I.turned (t' := s.toks) (fun b o hb e => (sb.2 b hb).trans e) f0 f1 f3 f4 f5
    obtain ⟨o, e, c, d⟩ := id st'
    exact ⟨u, rfl, go_of (s := { s with heap := h' }) e c d (by decide) ⟨x, H, I1, ru, ⟨rfl, fun ys hy => by rw [I.list_inj hy hq]; exact hx⟩, st', fun b hb => (hf b hb).1⟩⟩
  done := by
    intro X hP hw hK hc i pins s σ H E I hf st hg
    subst hP hw hK
    obtain ⟨xs, hq, hx⟩ := hg
    obtain ⟨its, rv, p, hz⟩ := I.list hq
    obtain ⟨f0, f1, f2, f3, f4, f5⟩ := hf it (by simp)
    have hl := rv.length
    exact wpAny_pyNext_list_end (I.ok.hd hc) st p.isList (by simp; omega) fun h' eb => ⟨rfl, I.turned (t' := s.toks) (fun b o hb e => eb b o hb e) f0 f1 f3 f4 f5⟩
  self := fun _ _ _ _ _ st h => wpAny_pyIter_listiter st h
theorem turn_tuple {P : Program} {w : World} {K : PySem.W.Frag} {tg : Expr} (a it : Addr) : Turn P w K tg (Itt K a) [it] it (fun i h => h.IsTupleIter it a i) where
  mem := by simp
  obj := fun i h st b hb => by
    have e : b = it := by simpa using hb
    subst e
    obtain ⟨o, e, c, d⟩ := st
    exact ⟨o, e, fun v z => by rw [d] at z; cases z⟩
  keep := fun i h h' st k => st.at fun o e => k it (by simp) o e
  item := by
    intro X hP hw hK hc i pins s σ H E I hf st hg
    subst hP hw hK
    obtain ⟨xs, x, hq, hx⟩ := hg
    obtain ⟨its, rv, p, hz⟩ := I.tuple hq
    obtain ⟨u, hu, ru⟩ := rv.get hx
    obtain ⟨f0, f1, f2, f3, f4, f5⟩ := hf it (by simp)
    refine wpAny_pyNext_tuple_item st (show s.heap.IsTuple a its.toArray from p) (x := u) (by simpa using hu) fun h' st' sb => ?_
    have I1 : Inv X pins σ H { s with heap := h' } := I.turned (t' := s.toks) (fun b o hb e => (sb.2 b hb).trans e) f0 f1 f3 f4 f5
    obtain ⟨o, e, c, d⟩ := id st'
    exact ⟨u, rfl, go_of (s := { s with heap := h' }) e c d (by decide) ⟨x, H, I1, ru, ⟨rfl, fun ys hy => by rw [I.tuple_inj hy hq]; exact hx⟩, st', fun b hb => (hf b hb).1⟩⟩
  done := by
    intro X hP hw hK hc i pins s σ H E I hf st hg
    subst hP hw hK
    obtain ⟨xs, hq, hx⟩ := hg
    obtain ⟨its, rv, p, hz⟩ := I.tuple hq
    obtain ⟨f0, f1, f2, f3, f4, f5⟩ := hf it (by simp)
    have hl := rv.length
    exact wpAny_pyNext_tuple_end (I.ok.hd hc) st (show s.heap.IsTuple a its.toArray from p) (by simp; omega) fun h' eb => ⟨rfl, I.turned (t' := s.toks) (fun b o hb e => eb b o hb e) f0 f1 f3 f4 f5⟩
  self := fun _ _ _ _ _ st h => wpAny_pyIter_tupleiter st h
theorem turn_range {P : Program} {w : World} {K : PySem.W.Frag} {tg : Expr} (it : Addr) (lo : Int) (n : Nat) : Turn P w K tg (Itr lo n) [it] it (fun i h => IsRangeIter h it (lo + (i : Nat) * 1) ((n : Int) - (i : Nat)) 1) where
  mem := by simp
  obj := fun i h st b hb => by
    have e : b = it := by simpa using hb
    subst e
    exact ⟨_, st, fun v z => by
      have z' : Data.fields _ = Data.cell v := z
      cases z'⟩
  keep := fun i h h' st k => k it (by simp) _ st
  item := by
    intro X hP hw hK hc i pins s σ H E I hf st hg
    subst hP hw hK
    obtain ⟨f0, f1, f2, f3, f4, f5⟩ := hf it (by simp)
    have W := Walks.range (prog := X.prog) (w := X.w) (I.ok.hd hc) it lo 1 n
    refine W.item i s _ _ hg st fun v h' tk hv st' kk => ?_
    obtain ⟨t, rfl⟩ := hv
    have I1 : Inv X pins σ H { s with heap := h', toks := tk } := I.turned (fun b o hb e => kk b o (by simpa using hb) e) f0 f1 f3 f4 f5
    refine ⟨_, rfl, go_of (s := { s with heap := h', toks := tk }) (n := "range_iterator") st' rfl rfl (by decide) ⟨.int (lo + i), H, I1, ⟨t, ?_⟩, ⟨rfl, rfl⟩, st', fun b hb => (hf b hb).1⟩⟩
    rw [Int.mul_one]
  done := by
    intro X hP hw hK hc i pins s σ H E I hf st hg
    subst hP hw hK
    obtain ⟨f0, f1, f2, f3, f4, f5⟩ := hf it (by simp)
    exact wpAny_pyNext_range_end (I.ok.hd hc) st (by have : n ≤ i := hg; omega) fun h' eb => ⟨rfl, I.turned (t' := s.toks) (fun b o hb e => eb b o hb e) f0 f1 f3 f4 f5⟩
  self := fun _ _ _ _ _ st h => wpAny_pyIter_rangeiter st h
end L2

namespace L2
open PySem PySem.Spec PyProof.Rows
section
variable {X : Cx} {tg : Expr}
def iList (K : PySem.W.Frag) (tl : TE) : TI := fun σ H R => tl σ H fun x H1 => ∃ a, x = .ref a ∧ (∃ xs, SqL K H1 a xs) ∧ R (Itl K a) H1
def iTup (K : PySem.W.Frag) (tl : TE) : TI := fun σ H R => tl σ H fun x H1 => ∃ a, x = .ref a ∧ (∃ xs, SqT K H1 a xs) ∧ R (Itt K a) H1
theorem pi_list {l : Expr} {tl : TE} (hl : PE X l tl) : PI X tg l (iList X.K tl) := by
  intro pins s σ H R I h
  refine thn (hl pins s σ H _ I h) fun v s1 ⟨x, H1, I1, r1, q1⟩ => ?_
  obtain ⟨a, e, ⟨xs, hq⟩, q⟩ := q1
  subst e
  cases r1
  obtain ⟨its, rv, p, hz⟩ := I1.list hq
  refine wpAny_pyIter_list p.isList ?_
  refine ⟨s1.heap.objs.size, [s1.heap.objs.size], _, _, H1, rfl, I1.kept (t' := s1.toks) fun b o e => Heap.get?_push_of_some _ e, turn_list a _, ⟨_, Heap.get?_push_size _ rfl, rfl, rfl⟩, fun b hb => ?_, q⟩
  have e : b = s1.heap.objs.size := by simpa using hb
  subst e
  exact I1.fpOk (Nat.le_refl _) (I1.hok.fresh (Nat.le_refl _))
theorem pi_tup {l : Expr} {tl : TE} (hl : PE X l tl) : PI X tg l (iTup X.K tl) := by
  intro pins s σ H R I h
  refine thn (hl pins s σ H _ I h) fun v s1 ⟨x, H1, I1, r1, q1⟩ => ?_
  obtain ⟨a, e, ⟨xs, hq⟩, q⟩ := q1
  subst e
  cases r1
  obtain ⟨its, rv, p, hz⟩ := I1.tuple hq
  refine wpAny_pyIter_tuple (show s1.heap.IsTuple a its.toArray from p) ?_
  refine ⟨s1.heap.objs.size, [s1.heap.objs.size], _, _, H1, rfl, I1.kept (t' := s1.toks) fun b o e => Heap.get?_push_of_some _ e, turn_tuple a _, ⟨_, Heap.get?_push_size _ rfl, rfl, rfl⟩, fun b hb => ?_, q⟩
  have e : b = s1.heap.objs.size := by simpa using hb
  subst e
  exact I1.fpOk (Nat.le_refl _) (I1.hok.fresh (Nat.le_refl _))
/-- a range object just made, walked -/
theorem range_it {pins : List (Addr × Obj)} {σ : St} {H : Hp} {s : Shared} {R : It → Hp → Prop} {E : Value → Shared → Prop} {lo hi : Int} {t u v : Tok} {tk : Nat} (I : Inv X pins σ H s) (h1 : -(2 ^ 62) ≤ lo) (h2 : lo < 2 ^ 62) (h3 : -(2 ^ 62) ≤ hi) (h4 : hi < 2 ^ 62)
    (q : R (Itr lo (hi - lo).toNat) H) : wpAny (model X.prog X.w) X.A (pyIter (.ref s.heap.objs.size)) (PIE X pins σ tg R) E { s with heap := s.heap.push { cls := .type "range", data := .fields #[.int lo t, .int hi u, .int 1 v] }, toks := tk } := by
  refine wpAny_pyIter_range (IsRange.new ..) (small_one h1 h2 h3 h4) ?_
  have I1 : Inv X pins σ H { s with heap := s.heap.push { cls := .type "range", data := .fields #[.int lo t, .int hi u, .int 1 v] }, toks := tk } := I.kept fun b o e => Heap.get?_push_of_some _ e
  refine ⟨(s.heap.push { cls := .type "range", data := .fields #[.int lo t, .int hi u, .int 1 v] }).objs.size, [(s.heap.push { cls := .type "range", data := .fields #[.int lo t, .int hi u, .int 1 v] }).objs.size], _, _, H, rfl,
    I1.kept (t' := tk) fun b o e => Heap.get?_push_of_some _ e, turn_range _ lo (hi - lo).toNat, ?_, fun b hb => ?_, q⟩
  · have e1 : lo + ((0 : Nat) : Int) * 1 = lo := by simp
    have e2 : (((hi - lo).toNat : Nat) : Int) - ((0 : Nat) : Int) = Builtin.Range.rangeSize lo hi 1 := by rw [rangeSize_one]; split <;> omega
    show IsRangeIter _ _ (lo + ((0 : Nat) : Int) * 1) ((((hi - lo).toNat : Nat) : Int) - ((0 : Nat) : Int)) 1
    rw [e1, e2]
    exact Heap.get?_push_size _ rfl
  · have e : b = (s.heap.push { cls := .type "range", data := .fields #[.int lo t, .int hi u, .int 1 v] }).objs.size := by simpa using hb
    subst e
    exact I1.fpOk (Nat.le_refl _) (I1.hok.fresh (Nat.le_refl _))
def iRng1 (ta : TA) : TI := fun σ H R => ta σ H fun vs H1 => ∃ j : Int, vs = [.int j] ∧ -(2 ^ 62) ≤ j ∧ j < 2 ^ 62 ∧ R (Itr 0 j.toNat) H1
theorem pi_range1 {a : Expr} {ta : TA} {p pos : Pos} (hg : Gl X "range") (hm : X.mg "range" = none) (ha : PA X [a] ta) (hs : starEach [a] X.env = [(false, eval a X.env)] := by rfl) : PI X tg (.Call (.Name "range" p) [a] [] pos) (iRng1 ta) := by
  intro pins s σ H R I h
  refine Call_ (ld_blt I hg hm boot_range (PyProof.Rows.callWith_type1 (thn (ha pos pins s σ H _ I h) fun us s1 ⟨vs, H1, I1, r1, q1⟩ => ?_) hs rfl))
  obtain ⟨j, e, q1, q2, q⟩ := q1
  subst e
  cases r1 with
  | cons r rr =>
    cases rr
    obtain ⟨t, rfl⟩ := r
    exact call_range_1 (range_it I1 (by omega) (by omega) q1 q2 (by simpa using q))

/-! ### for -/
/-- W: the invariant by the turn and a measure; N: what the body is to reach -/
def tFor (wi : TI) (g : TG) (tb : TS) : TS := fun D σ H => wi σ H fun J H1 => ∃ W : Nat → Nat → St → Hp → Prop, (∃ m, W 0 m σ H1) ∧ ∀ i m σ H, W i m σ H →
  (J.stop i H ∧ D.nx σ H) ∨ (J.go i H ∧ ∃ N : St → Hp → Prop, (∀ σ' H', N σ' H' → ∃ m', m' < m ∧ W (i + 1) m' σ' H') ∧ ∀ x H', J.yld i H x H' → g x σ H' fun σ2 H2 => tb { D with nx := N, ct := N, bk := D.nx } σ2 H2)
/-- the records at fp as they stand -/
def pinsAt (fp : List Addr) (h : Heap) : List (Addr × Obj) := fp.filterMap fun b => (h.get? b).map fun o => (b, o)
theorem mem_pinsAt {fp : List Addr} {h : Heap} {b : Addr} {o : Obj} (hb : b ∈ fp) (e : h.get? b = some o) : (b, o) ∈ pinsAt fp h := List.mem_filterMap.mpr ⟨b, hb, by rw [e]; rfl⟩
theorem of_pinsAt {fp : List Addr} {h : Heap} {p : Addr × Obj} (hp : p ∈ pinsAt fp h) : p.1 ∈ fp ∧ h.get? p.1 = some p.2 := by
  obtain ⟨b, hb, e⟩ := List.mem_filterMap.mp hp
  cases q : h.get? b with
  | none => rw [q] at e; cases e
  | some o =>
    rw [q] at e
    have e' : (b, o) = p := Option.some.inj e
    subst e'
    exact ⟨hb, q⟩
theorem Inv.pinned {pins : List (Addr × Obj)} {σ : St} {H : Hp} {s : Shared} {fp : List Addr} (I : Inv X pins σ H s) (hf : ∀ b ∈ fp, FpOk X pins H b) (ho : ∀ b ∈ fp, ∃ o, s.heap.get? b = some o ∧ ∀ v, o.data ≠ .cell v) : Inv X (pins ++ pinsAt fp s.heap) σ H s :=
  I.pins_of fun p hp => (List.mem_append.mp hp).elim (fun z => I.pin p (List.mem_append_right _ z)) fun z => by
    obtain ⟨hb, e⟩ := of_pinsAt z
    obtain ⟨f0, f1, f2, _⟩ := hf p.1 hb
    obtain ⟨o, e', d⟩ := ho p.1 hb
    rw [e] at e'; cases e'
    exact ⟨e, f0, f1, f2, d⟩
theorem Inv.unpinned {pins pl : List (Addr × Obj)} {σ : St} {H : Hp} {s : Shared} (I : Inv X (pins ++ pl) σ H s) : Inv X pins σ H s := I.pins_of fun p hp => I.pin p (List.mem_append_right _ (List.mem_append_left _ hp))
theorem ps_for {iter : Expr} {body : List Stmt} {wi : TI} {g : TG} {tb : TS} {pos : Pos} (hp : PassesOwn (model X.prog X.w) X.A X.env X.xe) (hc : X.calm = true) (hi : PI X tg iter wi) (hg : PG X tg g) (hb : PSs X body tb)
    (hs : ∀ x, foldedSetIterable iter X.env x = pure x := by intro _; rfl) : PS X (.For tg iter body [] pos) (tFor wi g tb) := by
  intro pins s σ H D I h
  refine wpAny_For (thn (hi pins s σ H _ I h) fun v s1 h1 => thn h1 fun itv s2 h2 => ?_) hs
  obtain ⟨it, fp, tn, J, H2, e, I2, T, st2, f2, W, ⟨m0, w0⟩, turn⟩ := h2
  subst e
  -- what stays true of the iterator's objects through the loop
  have stat : ∀ {H' : Hp}, (∀ b ∈ fp, H' b = none) → ∀ b ∈ fp, FpOk X pins H' b := fun hn b hb => ⟨hn b hb, (f2 b hb).2⟩
  refine codeAny_forLoop_any (fun n s' => ∃ i σ' H', Inv X pins σ' H' s' ∧ tn i s'.heap ∧ (∀ b ∈ fp, H' b = none) ∧ W i n σ' H') ?_ m0 ⟨0, σ, H2, I2, st2, fun b hb => (f2 b hb).1, w0⟩
  rintro n s3 ⟨i, σ3, H3, I3, st3, fr3, w3⟩
  rcases turn i n σ3 H3 w3 with ⟨stop, qn⟩ | ⟨go, N, hN, step⟩
  · refine wpAny_passesOwn hp (thn (T.done X rfl rfl rfl hc i pins s3 σ3 H3 X.xe I3 (stat fr3) st3 stop) fun r s4 ⟨hr, I4⟩ => ?_)
    subst hr
    exact wpAny_execs_nil ⟨σ3, H3, I4, qn⟩
  · refine wpAny_passesOwn hp (thn (T.item X rfl rfl rfl hc i pins s3 σ3 H3 X.xe I3 (stat fr3) st3 go) fun r s4 ⟨u, hr, h4⟩ => ?_)
    subst hr
    refine wpAny_passesOwn hp (thn h4 fun _ s5 ⟨x, H5, I5, r5, y5, st5, fr5⟩ => ?_)
    have I5' := I5.pinned (stat fr5) (T.obj _ _ st5)
    refine wpAny_passesOwn hp (thn (hg _ s5 σ3 H5 x u _ I5' r5 (step x H5 y5)) fun _ s6 ⟨σ6, H6, I6, q6⟩ => ?_)
    refine wpAny_passesOwn hp (thn (hb _ s6 σ6 H6 _ I6 q6) fun f s7 q7 => ?_)
    have again : ∀ {σ7 : St} {H7 : Hp}, Inv X (pins ++ pinsAt fp s5.heap) σ7 H7 s7 → N σ7 H7 → ∃ m, m < n ∧ ∃ i σ' H', Inv X pins σ' H' s7 ∧ tn i s7.heap ∧ (∀ b ∈ fp, H' b = none) ∧ W i m σ' H' := fun {σ7 H7} I7 n7 => by
      obtain ⟨m', hm, w7⟩ := hN σ7 H7 n7
      refine ⟨m', hm, i + 1, σ7, H7, I7.unpinned, T.keep _ _ _ st5 fun b hb o e => (I7.pin (b, o) (List.mem_append_right _ (List.mem_append_right _ (mem_pinsAt hb e)))).1, fun b hb => ?_, w7⟩
      obtain ⟨o, e, d⟩ := T.obj _ _ st5 b hb
      exact (I7.pin (b, o) (List.mem_append_right _ (List.mem_append_right _ (mem_pinsAt hb e)))).2.1
    cases f with
    | next => obtain ⟨σ7, H7, I7, n7⟩ := q7; exact again I7 n7
    | cont => obtain ⟨σ7, H7, I7, n7⟩ := q7; exact again I7 n7
    | brk => obtain ⟨σ7, H7, I7, q7⟩ := q7; exact ⟨σ7, H7, I7.unpinned, q7⟩
    | ret v => obtain ⟨x7, σ7, H7, I7, r7, q7⟩ := q7; exact ⟨x7, σ7, H7, I7.unpinned, r7, q7⟩
end

/-! ### the forms one uses -/
/-- over a list that the body leaves as it is -/
theorem for_list {K : PySem.W.Frag} {a : Addr} {xs : List V} {g : TG} {tb : TS} {D : Ends} {σ : St} {H : Hp} (Pv : Nat → St → Hp → Prop) (h0 : Pv 0 σ H) (hl : ∀ i σ H, i ≤ xs.length → Pv i σ H → SqL K H a xs)
    (hs : ∀ i x σ H, xs[i]? = some x → Pv i σ H → g x σ H fun σ2 H2 => tb { D with nx := Pv (i + 1), ct := Pv (i + 1), bk := D.nx } σ2 H2) (hd : ∀ σ H, Pv xs.length σ H → D.nx σ H) :
    ∃ W : Nat → Nat → St → Hp → Prop, (∃ m, W 0 m σ H) ∧ ∀ i m σ H, W i m σ H →
      ((Itl K a).stop i H ∧ D.nx σ H) ∨ ((Itl K a).go i H ∧ ∃ N : St → Hp → Prop, (∀ σ' H', N σ' H' → ∃ m', m' < m ∧ W (i + 1) m' σ' H') ∧ ∀ x H', (Itl K a).yld i H x H' → g x σ H' fun σ2 H2 => tb { D with nx := N, ct := N, bk := D.nx } σ2 H2) := by
  refine ⟨fun i m σ H => m = xs.length - i ∧ i ≤ xs.length ∧ Pv i σ H, ⟨xs.length, by simp, Nat.zero_le _, h0⟩, ?_⟩
  rintro i m σ H ⟨rfl, hi, p⟩
  have q := hl i σ H hi p
  by_cases hlt : i < xs.length
  · refine .inr ⟨⟨xs, xs[i], q, by simp [hlt]⟩, Pv (i + 1), fun σ' H' p' => ⟨xs.length - (i + 1), by omega, rfl, hlt, p'⟩, fun x H' y => ?_⟩
    obtain ⟨e, y⟩ := y
    subst e
    exact hs i x σ _ (y xs q) p
  · have e : i = xs.length := by omega
    subst e
    exact .inl ⟨⟨xs, q, Nat.le_refl _⟩, hd σ H p⟩
theorem for_range {lo : Int} {n : Nat} {g : TG} {tb : TS} {D : Ends} {σ : St} {H : Hp} (Pv : Nat → St → Hp → Prop) (h0 : Pv 0 σ H)
    (hs : ∀ i σ H, i < n → Pv i σ H → g (.int (lo + i)) σ H fun σ2 H2 => tb { D with nx := Pv (i + 1), ct := Pv (i + 1), bk := D.nx } σ2 H2) (hd : ∀ σ H, Pv n σ H → D.nx σ H) :
    ∃ W : Nat → Nat → St → Hp → Prop, (∃ m, W 0 m σ H) ∧ ∀ i m σ H, W i m σ H →
      ((Itr lo n).stop i H ∧ D.nx σ H) ∨ ((Itr lo n).go i H ∧ ∃ N : St → Hp → Prop, (∀ σ' H', N σ' H' → ∃ m', m' < m ∧ W (i + 1) m' σ' H') ∧ ∀ x H', (Itr lo n).yld i H x H' → g x σ H' fun σ2 H2 => tb { D with nx := N, ct := N, bk := D.nx } σ2 H2) := by
  refine ⟨fun i m σ H => m = n - i ∧ i ≤ n ∧ Pv i σ H, ⟨n, by simp, Nat.zero_le _, h0⟩, ?_⟩
  rintro i m σ H ⟨rfl, hi, p⟩
  by_cases hlt : i < n
  · refine .inr ⟨hlt, Pv (i + 1), fun σ' H' p' => ⟨n - (i + 1), by omega, rfl, hlt, p'⟩, fun x H' y => ?_⟩
    obtain ⟨e, y⟩ := y
    subst e y
    exact hs i σ _ hlt p
  · have e : i = n := by omega
    subst e
    exact .inl ⟨Nat.le_refl _, hd σ H p⟩
end L2

namespace L2
open PySem PySem.Spec PyProof.Rows

abbrev R2 := V → V → Hp → VK → Prop
/-- a two-place operation on values: f is binaryOp op, inplaceOp op or compareOp op -/
def OpR (X : Cx) (f : Value → Value → Sem Value) (r : R2) : Prop :=
  ∀ (pins : List (Addr × Obj)) (s : Shared) (σ : St) (H : Hp) (x y : V) (v u : Value) (Q : VK), Inv X pins σ H s → RelV x v → RelV y u → r x y H Q →
    wpAny (model X.prog X.w) X.A (f v u) (EP X pins σ Q) X.xe s
/-- a one-place operation -/
def UnR (X : Cx) (f : Value → Sem Value) (r : V → Hp → VK → Prop) : Prop :=
  ∀ (pins : List (Addr × Obj)) (s : Shared) (σ : St) (H : Hp) (x : V) (v : Value) (Q : VK), Inv X pins σ H s → RelV x v → r x H Q →
    wpAny (model X.prog X.w) X.A (f v) (EP X pins σ Q) X.xe s
/-- a call of a value that is known (a builtin, a type) with values -/
def CallR (X : Cx) (f : Value) (r : List V → Hp → VK → Prop) : Prop :=
  ∀ (pins : List (Addr × Obj)) (s : Shared) (σ : St) (H : Hp) (xs : List V) (us : List Value) (Q : VK), Inv X pins σ H s → Vals xs us → r xs H Q →
    wpAny (model X.prog X.w) X.A (call f us) (EP X pins σ Q) X.xe s

def tOp (r : R2) (ta tb : TE) : TE := fun σ H Q => ta σ H fun x H1 => tb σ H1 fun y H2 => r x y H2 Q
def tUn (r : V → Hp → VK → Prop) (ta : TE) : TE := fun σ H Q => ta σ H fun x H1 => r x H1 Q
/-- ints in, under C, and a value out -/
def rI (C : Int → Int → Prop) (g : Int → Int → V) : R2 := fun x y H Q => ∃ i j, x = .int i ∧ y = .int j ∧ C i j ∧ Q (g i j) H
def rI0 (g : Int → Int → V) : R2 := fun x y H Q => ∃ i j, x = .int i ∧ y = .int j ∧ Q (g i j) H
def rU (g : Int → V) : V → Hp → VK → Prop := fun x H Q => ∃ i, x = .int i ∧ Q (g i) H

section
variable {X : Cx} {a b c : Expr} {ta tb tc : TE} {pos : Pos}

theorem binT (ha : PE X a ta) (hb : PE X b tb) {pins : List (Addr × Obj)} {s : Shared} {σ : St} {H : Hp} {R : V → V → Hp → Prop} (I : Inv X pins σ H s)
    (h : ta σ H fun x H1 => tb σ H1 fun y H2 => R x y H2) {Q : Value → Shared → Prop} {f : Value → Value → Sem Value}
    (hf : ∀ v u s2 x y H2, Inv X pins σ H2 s2 → RelV x v → RelV y u → R x y H2 → wpAny (model X.prog X.w) X.A (f v u) Q X.xe s2) :
    wpAny (model X.prog X.w) X.A (eval a X.env) (fun v s₁ => wpAny (model X.prog X.w) X.A (eval b X.env) (fun u s₂ => wpAny (model X.prog X.w) X.A (f v u) Q X.xe s₂) X.xe s₁) X.xe s := by
  refine thn (ha pins s σ H _ I h) fun v s1 ⟨x, H1, I1, r1, q1⟩ => ?_
  refine thn (hb pins s1 σ H1 _ I1 q1) fun u s2 ⟨y, H2, I2, r2, q2⟩ => ?_
  exact hf v u s2 x y H2 I2 r1 r2 q2

theorem pe_op {op : Operator} {r : R2} (ho : OpR X (binaryOp op) r) (ha : PE X a ta) (hb : PE X b tb) : PE X (.BinOp a op b pos) (tOp r ta tb) := by
  intro pins s σ H Q I h
  exact wpAny_BinOp (binT ha hb I h fun v u s2 x y H2 I2 rx ry q => ho pins s2 σ H2 x y v u Q I2 rx ry q)
theorem pe_un {op : UnaryOp} {r : V → Hp → VK → Prop} (ho : UnR X (unaryOp op) r) (ha : PE X a ta) : PE X (.UnaryOp op a pos) (tUn r ta) := by
  intro pins s σ H Q I h
  exact UnaryOp_ (thn (ha pins s σ H _ I h) fun v s1 ⟨x, H1, I1, r1, q1⟩ => ho pins s1 σ H1 x v Q I1 r1 q1)

/-! ### ints -/
theorem opI {f : Value → Value → Sem Value} {C : Int → Int → Prop} {g : Int → Int → Int}
    (rule : ∀ (i j : Int) (t u : Tok) (s : Shared) (Q : Value → Shared → Prop) (E : Value → Shared → Prop), C i j → Q (.int (g i j) s.toks) { s with toks := s.toks + 1 } → wpAny (model X.prog X.w) X.A (f (.int i t) (.int j u)) Q E s) :
    OpR X f (rI C fun i j => .int (g i j)) := by
  intro pins s σ H x y v u Q I rx ry h
  obtain ⟨i, j, rfl, rfl, hc, q⟩ := h
  obtain ⟨t, rfl⟩ := rx
  obtain ⟨t', rfl⟩ := ry
  exact rule i j t t' s _ _ hc ⟨.int (g i j), H, I.tok _, ⟨_, rfl⟩, q⟩
theorem opI0 {f : Value → Value → Sem Value} {g : Int → Int → Int}
    (rule : ∀ (i j : Int) (t u : Tok) (s : Shared) (Q : Value → Shared → Prop) (E : Value → Shared → Prop), Q (.int (g i j) s.toks) { s with toks := s.toks + 1 } → wpAny (model X.prog X.w) X.A (f (.int i t) (.int j u)) Q E s) :
    OpR X f (rI0 fun i j => .int (g i j)) := by
  intro pins s σ H x y v u Q I rx ry h
  obtain ⟨i, j, rfl, rfl, q⟩ := h
  obtain ⟨t, rfl⟩ := rx
  obtain ⟨t', rfl⟩ := ry
  exact rule i j t t' s _ _ ⟨.int (g i j), H, I.tok _, ⟨_, rfl⟩, q⟩
theorem opB0 {f : Value → Value → Sem Value} {g : Int → Int → Bool}
    (rule : ∀ (i j : Int) (t u : Tok) (s : Shared) (Q : Value → Shared → Prop) (E : Value → Shared → Prop), Q (.bool (g i j)) s → wpAny (model X.prog X.w) X.A (f (.int i t) (.int j u)) Q E s) :
    OpR X f (rI0 fun i j => .bl (g i j)) := by
  intro pins s σ H x y v u Q I rx ry h
  obtain ⟨i, j, rfl, rfl, q⟩ := h
  obtain ⟨t, rfl⟩ := rx
  obtain ⟨t', rfl⟩ := ry
  exact rule i j t t' s _ _ ⟨.bl (g i j), H, I, rfl, q⟩

def CDiv (i j : Int) : Prop := 0 < j ∧ j < 1073741824
def CPow (i j : Int) : Prop := 0 ≤ j ∧ j ≤ 1000000 ∧ i.natAbs < 2 ^ 64
def CMul (i j : Int) : Prop := (-(2 ^ 64) < i ∧ i < 2 ^ 64) ∨ (-(2 ^ 64) < j ∧ j < 2 ^ 64)
theorem CMul.ok {i j : Int} (h : CMul i j) : IntMulOk i j := by
  rcases h with ⟨h1, h2⟩ | ⟨h1, h2⟩
  · exact .of_left (intBits_le_64 h1 h2)
  · exact .of_right (intBits_le_64 h1 h2)

theorem op_add : OpR X (binaryOp .Add) (rI0 fun i j => .int (i + j)) := opI0 fun _ _ _ _ _ _ _ q => add_int q
theorem op_sub : OpR X (binaryOp .Sub) (rI0 fun i j => .int (i - j)) := opI0 fun _ _ _ _ _ _ _ q => sub_int q
theorem op_mul : OpR X (binaryOp .Mult) (rI CMul fun i j => .int (i * j)) := opI fun _ _ _ _ _ _ _ hc q => mul_int q hc.ok
/-- // by a positive divisor -/
theorem op_fdiv : OpR X (binaryOp .FloorDiv) (rI CDiv fun i j => .int (i / j)) := opI fun i j _ _ _ _ _ hc q => by
  have h1 : (0 : Int) < j := hc.1
  have h2 : j < 1073741824 := hc.2
  exact floordiv_int (by omega) (by rw [Int.fdiv_eq_ediv_of_nonneg i (by omega)]; exact q) (.inl (PyProof.noPylong_small (by omega)))
/-- % by a positive divisor of any size -/
theorem op_mod : OpR X (binaryOp .Mod) (rI (fun _ j => 0 < j) fun i j => .int (i % j)) := opI fun i j _ _ _ _ _ hc q => by
  have h1 : (0 : Int) < j := hc
  exact mod_int' (by omega) (by rw [Int.fmod_eq_emod_of_nonneg i (by omega)]; exact q)
theorem op_pow : OpR X (binaryOp .Pow) (rI CPow fun i j => .int (i ^ j.toNat)) := opI fun _ _ _ _ _ _ _ hc q => pow_int_small hc.1 hc.2.1 hc.2.2 q


theorem unI {f : Value → Sem Value} {g : Int → Int}
    (rule : ∀ (i : Int) (t : Tok) (s : Shared) (Q : Value → Shared → Prop) (E : Value → Shared → Prop), Q (.int (g i) s.toks) { s with toks := s.toks + 1 } → wpAny (model X.prog X.w) X.A (f (.int i t)) Q E s) :
    UnR X f (rU fun i => .int (g i)) := by
  intro pins s σ H x v Q I rx h
  obtain ⟨i, rfl, q⟩ := h
  obtain ⟨t, rfl⟩ := rx
  exact rule i t s _ _ ⟨.int (g i), H, I.tok _, ⟨_, rfl⟩, q⟩
theorem un_neg : UnR X (unaryOp .USub) (rU fun i => .int (-i)) := unI fun _ _ _ _ _ q => neg_int q

/-! ### bools among ints: n += (a < b) -/
end

/-! ### comparisons -/
/-- the scalars that == tells apart as data does -/
def scal : V → V → Bool
  | .non, .non => true | .non, .int _ => true | .int _, .non => true | .non, .bl _ => true | .bl _, .non => true | .non, .str _ => true | .str _, .non => true
  | .int _, .int _ => true | .bl _, .bl _ => true | .str _, .str _ => true | .byt _, .byt _ => true
  | .int _, .str _ => true | .str _, .int _ => true | .bl _, .str _ => true | .str _, .bl _ => true
  | _, _ => false
def rEq : R2 := fun x y H Q => scal x y = true ∧ Q (.bl (decide (x = y))) H

theorem dec_int {i j : Int} : decide (V.int i = V.int j) = (i == j) := by
  rw [Bool.eq_iff_iff]
  simp
theorem dec_bl {i j : Bool} : decide (V.bl i = V.bl j) = (i == j) := by
  rw [Bool.eq_iff_iff]
  simp
theorem dec_str {i j : Str} : decide (V.str i = V.str j) = (i == j) := by
  rw [Bool.eq_iff_iff]
  simp
theorem dec_byt {i j : Array UInt8} : decide (V.byt i = V.byt j) = (i.toList == j.toList) := by
  rw [Bool.eq_iff_iff]
  cases i
  cases j
  simp

section
variable {X : Cx} {a b c : Expr} {ta tb tc : TE} {pos : Pos}
theorem fin_bl {pins : List (Addr × Obj)} {σ : St} {H : Hp} {s : Shared} {Q : VK} {k k' : Bool} (I : Inv X pins σ H s) (q : Q (.bl k) H) (e : k = k') : EP X pins σ Q (.bool k') s := by
  subst e
  exact ⟨.bl k, H, I, rfl, q⟩
theorem op_eq : OpR X (compareOp .Eq) rEq := by
  intro pins s σ H x y v u Q I rx ry h
  obtain ⟨hs, q⟩ := h
  cases x with
  | non =>
    cases rx
    cases y with
    | non => cases ry; exact PySem.EqNone.eq_none_none (fin_bl I q (by simp))
    | bl j => cases ry; exact PySem.EqNone.eq_none_bool (fin_bl I q (by simp))
    | int j => obtain ⟨t', rfl⟩ := ry; exact PySem.EqNone.eq_none_int (fin_bl I q (by simp))
    | str j => obtain ⟨t', rfl⟩ := ry; exact PySem.EqNone.eq_none_str (fin_bl I q (by simp))
    | _ => exact absurd (show false = true from hs) Bool.false_ne_true
  | bl i =>
    cases rx
    cases y with
    | non => cases ry; exact PySem.EqNone.eq_bool_none (fin_bl I q (by simp))
    | bl j => cases ry; exact eq_bool (fin_bl I q dec_bl)
    | str j => obtain ⟨t', rfl⟩ := ry; exact PySem.EqMixed.eq_bool_str (fin_bl I q (by simp))
    | _ => exact absurd (show false = true from hs) Bool.false_ne_true
  | int i =>
    obtain ⟨t, rfl⟩ := rx
    cases y with
    | non => cases ry; exact PySem.EqNone.eq_int_none (fin_bl I q (by simp))
    | int j => obtain ⟨t', rfl⟩ := ry; exact eq_int (fin_bl I q dec_int)
    | str j => obtain ⟨t', rfl⟩ := ry; exact PySem.EqMixed.eq_int_str (fin_bl I q (by simp))
    | _ => exact absurd (show false = true from hs) Bool.false_ne_true
  | str i =>
    obtain ⟨t, rfl⟩ := rx
    cases y with
    | non => cases ry; exact PySem.EqNone.eq_str_none (fin_bl I q (by simp))
    | bl j => cases ry; exact PySem.EqMixed.eq_str_bool (fin_bl I q (by simp))
    | int j => obtain ⟨t', rfl⟩ := ry; exact PySem.EqMixed.eq_str_int (fin_bl I q (by simp))
    | str j => obtain ⟨t', rfl⟩ := ry; exact eq_str (fin_bl I q dec_str)
    | _ => exact absurd (show false = true from hs) Bool.false_ne_true
  | byt i =>
    obtain ⟨t, rfl⟩ := rx
    cases y with
    | byt j => obtain ⟨t', rfl⟩ := ry; exact PySem.W.eq_bytes (fin_bl I q dec_byt)
    | _ => exact absurd (show false = true from hs) Bool.false_ne_true
  | _ => cases y <;> exact absurd (show false = true from hs) Bool.false_ne_true

theorem op_lt : OpR X (compareOp .Lt) (rI0 fun i j => .bl (decide (i < j))) := opB0 fun _ _ _ _ _ _ _ q => lt_int q
theorem op_le : OpR X (compareOp .LtE) (rI0 fun i j => .bl (decide (i ≤ j))) := opB0 fun _ _ _ _ _ _ _ q => le_int q
theorem op_gt : OpR X (compareOp .Gt) (rI0 fun i j => .bl (decide (j < i))) := opB0 fun _ _ _ _ _ _ _ q => gt_int q
theorem op_ge : OpR X (compareOp .GtE) (rI0 fun i j => .bl (decide (j ≤ i))) := opB0 fun _ _ _ _ _ _ _ q => ge_int q



/-- two rules for one operation: by cases -/
theorem OpR.or {f : Value → Value → Sem Value} {r r' : R2} (h : OpR X f r) (h' : OpR X f r') : OpR X f (fun x y H Q => r x y H Q ∨ r' x y H Q) := by
  intro pins s σ H x y v u Q I rx ry q
  rcases q with q | q
  · exact h pins s σ H x y v u Q I rx ry q
  · exact h' pins s σ H x y v u Q I rx ry q

theorem nomark (b : Expr) {op : CmpOp} (h : op ≠ .In := by decide) (h2 : op ≠ .NotIn := by decide) : behindInMarks op b = false := by
  have e1 : (op == CmpOp.In) = false := by cases op <;> first | rfl | exact absurd rfl h
  have e2 : (op == CmpOp.NotIn) = false := by cases op <;> first | rfl | exact absurd rfl h2
  cases b <;> simp [behindInMarks, e1, e2]
/-- a comparison as a value; hm: nomark b, or (for in, not in) by with_unfolding_all rfl -/
theorem pe_cmpR {op : CmpOp} {r : R2} (ho : OpR X (compareOp op) r) (ha : PE X a ta) (hb : PE X b tb) (hm : behindInMarks op b = false) : PE X (.Compare a [op] [b] pos) (tOp r ta tb) := by
  intro pins s σ H Q I h
  exact wpAny_Compare1 (binT ha hb I h fun v u s2 x y H2 I2 rx ry q => ho pins s2 σ H2 x y v u Q I2 rx ry q) hm
/-- a reading of a value as a test -/
def tTest (t : TE) : TT := fun σ H Q => t σ H fun x H' => ∃ k, x = .bl k ∧ Q k H'
theorem pt_cmpR {op : CmpOp} {r : R2} (ho : OpR X (compareOp op) r) (ha : PE X a ta) (hb : PE X b tb) (hm : behindInMarks op b = false) : PT X (.Compare a [op] [b] pos) (tTest (tOp r ta tb)) := by
  intro pins s σ H Q I h
  refine wpAny_isTrue_Compare1 (thn (ha pins s σ H _ I h) fun v s1 ⟨x, H1, I1, r1, q1⟩ => thn (hb pins s1 σ H1 _ I1 q1) fun u s2 ⟨y, H2, I2, r2, q2⟩ =>
    thn (ho pins s2 σ H2 x y v u _ I2 r1 r2 q2) fun c s3 ⟨z, H3, I3, r3, k, e, q3⟩ => ?_) hm
  subst e
  cases r3
  exact wpAny_truthy_bool ⟨H3, I3, q3⟩
/-- a op1 b op2 c -/
def tChain (r r' : R2) (ta tb tc : TE) : TE := fun σ H Q => ta σ H fun x H1 => tb σ H1 fun y H2 => r x y H2 fun z H3 => ∃ k, z = .bl k ∧
  (if k = true then tc σ H3 fun w' H4 => r' y w' H4 Q else Q (.bl false) H3)
theorem pe_chain {op op' : CmpOp} {r r' : R2} (ho : OpR X (compareOp op) r) (ho' : OpR X (compareOp op') r') (ha : PE X a ta) (hb : PE X b tb) (hc : PE X c tc)
    (hm : lastMarks [op, op'] [b, c] = false := by with_unfolding_all rfl) : PE X (.Compare a [op, op'] [b, c] pos) (tChain r r' ta tb tc) := by
  intro pins s σ H Q I h
  refine Compare_chain (thn (ha pins s σ H _ I h) fun v s1 ⟨x, H1, I1, r1, q1⟩ => chain_link (thn (hb pins s1 σ H1 _ I1 q1) fun u s2 ⟨y, H2, I2, r2, q2⟩ =>
    thn (ho pins s2 σ H2 x y v u _ I2 r1 r2 q2) fun d s3 ⟨z, H3, I3, r3, k, e, q3⟩ => ?_)) hm
  subst e
  cases r3
  refine wpAny_truthy_bool ?_
  cases k with
  | false => exact ite_ff ⟨.bl false, H3, I3, rfl, q3⟩
  | true => exact ite_tt (chain_last (thn (hc pins s3 σ H3 _ I3 q3) fun w' s4 ⟨z', H4, I4, r4, q4⟩ => ho' pins s4 σ H4 y z' u w' Q I4 r2 r4 q4))
theorem pt_chain {op op' : CmpOp} {r r' : R2} (ho : OpR X (compareOp op) r) (ho' : OpR X (compareOp op') r') (ha : PE X a ta) (hb : PE X b tb) (hc : PE X c tc)
    (hm : lastMarks [op, op'] [b, c] = false := by with_unfolding_all rfl) : PT X (.Compare a [op, op'] [b, c] pos) (tTest (tChain r r' ta tb tc)) := by
  intro pins s σ H Q I h
  refine isTrue_chain (thn (ha pins s σ H _ I h) fun v s1 ⟨x, H1, I1, r1, q1⟩ => test_link (thn (hb pins s1 σ H1 _ I1 q1) fun u s2 ⟨y, H2, I2, r2, q2⟩ =>
    thn (ho pins s2 σ H2 x y v u _ I2 r1 r2 q2) fun d s3 ⟨z, H3, I3, r3, k, e, q3⟩ => ?_)) hm
  subst e
  cases r3
  refine wpAny_truthy_bool ?_
  cases k with
  | false =>
    obtain ⟨k', e', q'⟩ := q3
    cases e'
    exact ite_ff ⟨H3, I3, q'⟩
  | true =>
    refine ite_tt (test_last (thn (hc pins s3 σ H3 _ I3 q3) fun w' s4 ⟨z', H4, I4, r4, q4⟩ => thn (ho' pins s4 σ H4 y z' u w' _ I4 r2 r4 q4) fun d' s5 ⟨z2, H5, I5, r5, k2, e2, q5⟩ => ?_))
    subst e2
    cases r5
    exact wpAny_truthy_bool ⟨H5, I5, q5⟩

/-! ### truth -/
theorem line63 : (sizeLine : Nat) < 2 ^ 63 := by rw [sizeLine_eq]; decide

/-! ### strs and bytes -/
theorem op_add_str : OpR X (binaryOp .Add) (fun x y H Q => ∃ i j, x = .str i ∧ y = .str j ∧ i.length + j.length ≤ sizeLine ∧ Q (.str (i ++ j)) H) := by
  intro pins s σ H x y v u Q I rx ry h
  obtain ⟨i, j, rfl, rfl, hz, q⟩ := h
  obtain ⟨t, rfl⟩ := rx
  obtain ⟨t', rfl⟩ := ry
  exact add_str (fun t' tk => ⟨.str (i ++ j), H, I.tok _, ⟨_, rfl⟩, q⟩) hz


/-! ### scalar builtins, by CallR -/
theorem vals1 {x : V} {us : List Value} (r : Vals [x] us) : ∃ u, us = [u] ∧ RelV x u := by
  cases r with
  | cons r1 r2 => cases r2; exact ⟨_, rfl, r1⟩
theorem vals2 {x y : V} {us : List Value} (r : Vals [x, y] us) : ∃ u w', us = [u, w'] ∧ RelV x u ∧ RelV y w' := by
  cases r with
  | cons r1 r2 =>
    cases r2 with
    | cons r3 r4 => cases r4; exact ⟨_, _, rfl, r1, r3⟩
theorem call_abs : CallR X (.builtin "abs") (fun xs H Q => ∃ i, xs = [.int i] ∧ Q (.int (if i < 0 then -i else i)) H) := by
  intro pins s σ H xs us Q I r h
  obtain ⟨i, rfl, q⟩ := h
  obtain ⟨u, rfl, t, rfl⟩ := vals1 r
  exact call_abs_int fun u tk => ⟨.int (if i < 0 then -i else i), H, I.tok _, ⟨_, rfl⟩, q⟩
theorem call_max2 (hc : X.calm = true) : CallR X (.builtin "max") (fun xs H Q => ∃ i j, xs = [.int i, .int j] ∧ Q (.int (if j > i then j else i)) H) := by
  intro pins s σ H xs us Q I r h
  obtain ⟨i, j, rfl, q⟩ := h
  obtain ⟨u, w', rfl, ⟨t, rfl⟩, ⟨t', rfl⟩⟩ := vals2 r
  refine max_two_ints (I.ok.hd hc) fun h' tk k => ⟨_, H, I.kept k, ?_, q⟩
  by_cases hj : j > i
  · rw [if_pos hj, if_pos hj]; exact ⟨_, rfl⟩
  · rw [if_neg hj, if_neg hj]; exact ⟨_, rfl⟩
theorem call_min2 (hc : X.calm = true) : CallR X (.builtin "min") (fun xs H Q => ∃ i j, xs = [.int i, .int j] ∧ Q (.int (if j < i then j else i)) H) := by
  intro pins s σ H xs us Q I r h
  obtain ⟨i, j, rfl, q⟩ := h
  obtain ⟨u, w', rfl, ⟨t, rfl⟩, ⟨t', rfl⟩⟩ := vals2 r
  refine min_two_ints (I.ok.hd hc) fun h' tk k => ⟨_, H, I.kept k, ?_, q⟩
  by_cases hj : j < i
  · rw [if_pos hj, if_pos hj]; exact ⟨_, rfl⟩
  · rw [if_neg hj, if_neg hj]; exact ⟨_, rfl⟩
theorem call_int1 : CallR X (.type "int") (fun xs H Q => (∃ i, xs = [.int i] ∧ Q (.int i) H) ∨ ∃ k, xs = [.bl k] ∧ Q (.int (if k then 1 else 0)) H) := by
  intro pins s σ H xs us Q I r h
  rcases h with ⟨i, rfl, q⟩ | ⟨k, rfl, q⟩
  · obtain ⟨u, rfl, t, rfl⟩ := vals1 r
    exact call_int_int ⟨.int i, H, I, ⟨_, rfl⟩, q⟩
  · obtain ⟨u, rfl, r1⟩ := vals1 r
    cases r1
    exact call_int_bool ⟨.int (if k then 1 else 0), H, I.tok _, ⟨_, rfl⟩, q⟩
/-- len of a str, a bytes, a list, a tuple -/
def LenV (K : PySem.W.Frag) (x : V) (H : Hp) (n : Nat) : Prop :=
  match x with
  | .str y => y.length ≤ sizeLine ∧ n = y.length
  | .byt y => y.size ≤ sizeLine ∧ n = y.size
  | .ref p => (∃ xs, SqL K H p xs ∧ n = xs.length) ∨ ∃ xs, SqT K H p xs ∧ n = xs.length
  | _ => False
theorem call_len : CallR X (.builtin "len") (fun xs H Q => ∃ x n, xs = [x] ∧ LenV X.K x H n ∧ Q (.int n) H) := by
  intro pins s σ H xs us Q I r h
  obtain ⟨x, n, rfl, e, q⟩ := h
  obtain ⟨u, rfl, rx⟩ := vals1 r
  have hl := line63
  have hs : sizeLine = 16777216 := sizeLine_eq
  cases x with
  | str y =>
    obtain ⟨t, rfl⟩ := rx
    obtain ⟨hy, e'⟩ : y.length ≤ sizeLine ∧ n = y.length := e
    subst e'
    exact len_str (by omega) ⟨.int _, H, I.tok _, ⟨_, rfl⟩, q⟩
  | byt y =>
    obtain ⟨t, rfl⟩ := rx
    obtain ⟨hy, e'⟩ : y.size ≤ sizeLine ∧ n = y.size := e
    subst e'
    exact PySem.W.len_bytes (by omega) ⟨.int _, H, I.tok _, ⟨_, rfl⟩, q⟩
  | ref p =>
    cases rx
    have e' : (∃ xs, SqL X.K H p xs ∧ n = xs.length) ∨ ∃ xs, SqT X.K H p xs ∧ n = xs.length := e
    rcases e' with ⟨xs, hx, e'⟩ | ⟨xs, hx, e'⟩
    · subst e'
      obtain ⟨its, r', pl, hz⟩ := I.list hx
      have hlen := r'.length
      exact Calls.call_len_list pl.isList (by simp only [List.size_toArray]; omega) ⟨.int xs.length, H, I.tok _, ⟨_, by simp only [List.size_toArray]; rw [hlen]⟩, q⟩
    · subst e'
      obtain ⟨its, r', pl, hz⟩ := I.tuple hx
      have hlen := r'.length
      exact len_tuple pl (by simp only [List.size_toArray]; omega) ⟨.int xs.length, H, I.tok _, ⟨_, by simp only [List.size_toArray]; rw [hlen]⟩, q⟩
  | _ => exact (show False from e).elim
end
end L2

namespace L2
open PySem PySem.Spec PyProof.Rows

/-! ### an instance, its attributes a map -/
structure ObjM (h : Heap) (x dx C : Addr) (mA : Str → Option Value) : Prop where
  obj : h.get? x = some (PySem.W.instObj C dx)
  ns : h.Ns1 dx mA
  ne : dx ≠ x

theorem lookIn_ns {h : Heap} {dx : Addr} {mA : Str → Option Value} (n : h.Ns1 dx mA) : ∃ od, h.get? dx = some od ∧ ∀ name, PySem.W.lookIn name od = some (mA name) := by
  obtain ⟨o, es, ep, ho, hd, hk, _, hm⟩ := n
  refine ⟨o, ho, fun name => ?_⟩
  have e := hm name
  unfold nsFind findBy at e
  rw [← Array.find?_toList] at e
  unfold PySem.W.lookIn
  rw [hd]
  dsimp only
  split
  · rename_i y q
    rw [q] at e
    exact congrArg some e
  · rename_i q
    rw [q] at e
    have a : es.toList.any (·.refKey) = false := by
      rw [List.any_eq_false]
      intro y hy
      obtain ⟨z, t, hkey⟩ := hk y (Array.mem_toList_iff.mp hy)
      simp [DictEntry.refKey, hkey]
    have a' : ¬ es.toList.any (·.refKey) = true := by rw [a]; exact Bool.false_ne_true
    rw [if_neg a']
    exact congrArg some e

theorem ObjM.look {h : Heap} {x dx C : Addr} {mA : Str → Option Value} (I : ObjM h x dx C mA) : ∃ od, PySem.W.InstAt h x (PySem.W.instObj C dx) C (some od) ∧ ∀ name, PySem.W.lookIn name od = some (mA name) :=
  let ⟨od, ho, hl⟩ := lookIn_ns I.ns
  ⟨od, ⟨I.obj, rfl, rfl, ho⟩, hl⟩

section
variable {prog : Program} {w : World} {A : Around} {E : Value → Shared → Prop} {s : Shared} {K : PySem.W.Frag} {x dx C f : Addr} {mA : Str → Option Value} {name : Str} {v : Value}





end

/-! ### the attributes as a list of pairs -/

theorem RelO.some_of {v : V} {o : Option Value} (r : RelO (some v) o) : ∃ u, o = some u ∧ RelV v u := by
  cases o with
  | none => exact (show False from r).elim
  | some u => exact ⟨u, rfl, r⟩

section
variable {P : Program} {w : World} {H H' : Hp} {h h' : Heap} {a C dx : Addr} {fs fs' : List (Str × V)}
theorem ins_get (hok : HOk P w H h) (e : H a = some (.ins C dx fs)) : ∃ mA, ObjM h a dx C mA ∧ (∀ f, RelO (fs.lookup f) (mA f)) ∧ PySem.Within mA (fs.map (·.1)) ∧ fs.length ≤ 1000 ∧ H dx = some (.own a) := by
  obtain ⟨d, z, ne, ob, mA, n, r, q⟩ := (show ObjOk P w H h a (.ins C dx fs) from hok a _ e)
  exact ⟨mA, ⟨ob, n, ne⟩, r, q, z, d⟩
end

/-! ### what of the text a class must have -/
structure Cls (K : PySem.W.Frag) (C : Addr) : Prop where
  pg : PySem.W.plainGet K C Str.empty = true
  hd : PySem.W.hasDictIn K C = true
  po : PySem.W.plainOver K C = true
  sa : PySem.W.findIn K (.ref C) "__setattr__" = some (some (.builtin "object.__setattr__"))
theorem Cls.get {K : PySem.W.Frag} {C : Addr} (c : Cls K C) (f : Str) : PySem.W.plainGet K C f = true := c.pg
/-- no class of it has the name -/
def NoAttr (K : PySem.W.Frag) (C : Addr) (f : Str) : Prop := PySem.W.findIn K (.ref C) f = some none
theorem NoAttr.taker {K : PySem.W.Frag} {C : Addr} {f : Str} (n : NoAttr K C f) : PySem.W.takerIn K C f = some none := by
  unfold PySem.W.takerIn
  rw [show PySem.W.findIn K (.ref C) f = some none from n]
  rfl
/-- a constant of the class -/
structure Con (K : PySem.W.Frag) (C : Addr) (f : Str) (v : V) (u : Value) : Prop where
  at_ : PySem.W.findIn K (.ref C) f = some (some u)
  rel : RelV v u
  get : PySem.W.specialIn K u "__get__" = some none
  cp : PySem.W.copiedNames.contains f = false
/-- a method: a plain def of the class or of one above it -/
structure Meth (K : PySem.W.Frag) (C : Addr) (m : Str) (f : Addr) : Prop where
  at_ : PySem.W.findIn K (.ref C) m = some (some (.ref f))
  fn : PySem.W.isFn K (.ref f) = true
  kp : PySem.W.keepIn K (.ref f) = true

section
variable {X : Cx} {pins : List (Addr × Obj)} {σ : St} {H : Hp} {s : Shared} {a C dx : Addr} {fs : List (Str × V)} {f : Str} {v : V} {A : Around} {E : Value → Shared → Prop}





/-- a new instance, tracked, without attributes -/
theorem Inv.made (I : Inv X pins σ H s) : Inv X pins σ (upd (upd H s.heap.objs.size (.own (s.heap.objs.size + 1))) (s.heap.objs.size + 1) (.ins C s.heap.objs.size []))
    { s with heap := (s.heap.push PySem.W.emptyDict).push (PySem.W.instObj C s.heap.objs.size) } := by
  have e1 : (s.heap.push PySem.W.emptyDict).get? s.heap.objs.size = some PySem.W.emptyDict := Heap.get?_push_size s.heap rfl
  have e2 : ((s.heap.push PySem.W.emptyDict).push (PySem.W.instObj C s.heap.objs.size)).get? (s.heap.objs.size + 1) = some (PySem.W.instObj C s.heap.objs.size) := by
    have := Heap.get?_push_size (s.heap.push PySem.W.emptyDict) (o := PySem.W.instObj C s.heap.objs.size) rfl
    rwa [Heap.size_push] at this
  have e3 : (s.heap.push PySem.W.emptyDict).Ns s.heap.objs.size (fun _ => none) := ⟨PySem.W.emptyDict, #[], _, e1, rfl, (fun e he => absurd he (by simp)), fun _ => rfl⟩
  have I1 := I.laid (a := s.heap.objs.size) (o := .own (s.heap.objs.size + 1)) (h' := s.heap.push PySem.W.emptyDict) (t' := s.toks) (fun b u q => Heap.get?_push_of_some _ q) (Nat.le_refl _) ⟨_, e1⟩
  refine I1.laid (a := s.heap.objs.size + 1) (o := .ins C s.heap.objs.size []) (t' := s.toks) (fun b u q => Heap.get?_push_of_some _ q) (Nat.le_of_eq (Heap.size_push _ _)) ?_
  have ne : s.heap.objs.size ≠ s.heap.objs.size + 1 := Nat.ne_of_lt (Nat.lt_succ_self _)
  refine ⟨by rw [upd_ne ne, upd_same], Nat.zero_le _, ne, e2, fun _ => none, (Heap.Ns1.of_empty e3).at fun o q => Heap.get?_push_of_some _ q, fun _ => True.intro, fun y hy => absurd rfl hy⟩

end

/-! ### readings and rules -/

section
variable {X : Cx} {o e value : Expr} {f : Str} {pos pos' tpos : Pos} {ta tv : TE}

end

/-! ### isinstance -/
section
variable {X : Cx} {pins : List (Addr × Obj)} {σ : St} {H : Hp} {s : Shared} {A : Around} {E : Value → Shared → Prop} {Q : Value → Shared → Prop} {c : Value} {b : Bool}
/-- the type of a value, as the fragment's deciders take it; for an instance its class -/
inductive TyOf (K : PySem.W.Frag) (H : Hp) : V → Value → Prop where
  | non : TyOf K H .non (.type "NoneType")
  | bl (x : Bool) : TyOf K H (.bl x) (.type "bool")
  | int (i : Int) : TyOf K H (.int i) (.type "int")
  | str (x : Str) : TyOf K H (.str x) (.type "str")
  | flt (x : UInt64) : TyOf K H (.flt x) (.type "float")
  | lst {a : Addr} {xs : List V} (e : H a = some (.lst xs)) : TyOf K H (.ref a) (.type "list")
  | frz {a : Addr} {o : Obj} {xs : List V} (e : H a = some (.frz o (.lst xs))) : TyOf K H (.ref a) (.type "list")
  | tup {a : Addr} {xs : List V} (e : H a = some (.tup xs)) : TyOf K H (.ref a) (.type "tuple")
  | dK {a : Addr} {kvs : List (Key × V)} (e : H a = some (.dK kvs)) : TyOf K H (.ref a) (.type "dict")
  | dT {a : Addr} {kvs : List (List Key × V)} (e : H a = some (.dT kvs)) : TyOf K H (.ref a) (.type "dict")
  | ins {a C dx : Addr} {fs : List (Str × V)} (e : H a = some (.ins C dx fs)) (cl : Cls K C) (ha : PySem.W.findIn K (.ref C) "__class__" = some (some (.builtin "object.__class__")))
      (hn : PySem.W.specialIn K (.builtin "object.__class__") "__get__" = some (some (.builtin "getset_descriptor.__get__"))) (htk : PySem.W.takesIn K (.builtin "object.__class__") = some true)
      (hm : PySem.W.mroIn K C (.type "object") = some true) : TyOf K H (.ref a) (.ref C)
/-- isinstance(x, c) for one class c, a built-in or an own one: kitOne's answer -/
theorem isinst_ok {x : V} {u t : Value} (I : Inv X pins σ H s) (rx : RelV x u) (ty : TyOf X.K H x t) (e : PySem.W.kitOne X.K t c = some b) (h : ∀ tk, Q (.bool b) { s with toks := tk }) :
    wpAny (model X.prog X.w) A (call (.builtin "isinstance") [u, c]) Q E s := by
  cases ty with
  | non => cases (show u = Value.none from rx); exact PySem.W.kia_one PySem.W.kitx_none I.kIn True.intro e (fun z => nomatch z) h
  | bl y => cases (show u = Value.bool y from rx); exact PySem.W.kia_one PySem.W.kitx_bool I.kIn True.intro e (fun z => nomatch z) h
  | int i => obtain ⟨t, q⟩ := (show ∃ t, u = Value.int i t from rx); cases q; exact PySem.W.kia_one PySem.W.kitx_int I.kIn True.intro e (fun z => nomatch z) h
  | str y => obtain ⟨t, q⟩ := (show ∃ t, u = Value.str y t from rx); cases q; exact PySem.W.kia_one PySem.W.kitx_str I.kIn True.intro e (fun z => nomatch z) h
  | flt y => obtain ⟨t, q⟩ := (show ∃ t, u = Value.float y t from rx); cases q; exact PySem.W.kia_one PySem.W.kitx_float I.kIn True.intro e (fun z => nomatch z) h
  | @lst a xs ea =>
    cases (show u = Value.ref a from rx)
    obtain ⟨_, _, n, _, h1⟩ := (show ObjOk X.prog X.w H s.heap a (.lst xs) from I.hok a _ ea)
    exact PySem.W.kia_one PySem.W.kitx_list I.kIn ⟨_, h1, rfl⟩ e (fun z => nomatch z) h
  | @frz a ob xs ea =>
    cases (show u = Value.ref a from rx)
    obtain ⟨_, _, _, n, _, h1⟩ := (show ObjOk X.prog X.w H s.heap a (.frz ob (.lst xs)) from I.hok a _ ea)
    exact PySem.W.kia_one PySem.W.kitx_list I.kIn ⟨_, h1, rfl⟩ e (fun z => nomatch z) h
  | @tup a xs ea =>
    cases (show u = Value.ref a from rx)
    obtain ⟨_, _, _, p⟩ := (show ObjOk X.prog X.w H s.heap a (.tup xs) from I.hok a _ ea)
    obtain ⟨o, h1, h2, _⟩ := p
    exact PySem.W.kia_one PySem.W.kitx_tuple I.kIn ⟨o, h1, h2⟩ e (fun z => nomatch z) h
  | @dK a kvs ea =>
    cases (show u = Value.ref a from rx)
    obtain ⟨_, _, vs, _, p⟩ := (show ObjOk X.prog X.w H s.heap a (.dK kvs) from I.hok a _ ea)
    obtain ⟨o, es, ep, h1, h2, _⟩ := p
    exact PySem.W.kia_one PySem.W.kitx_dict I.kIn ⟨o, h1, h2.1⟩ e (fun z => nomatch z) h
  | @dT a kvs ea =>
    cases (show u = Value.ref a from rx)
    obtain ⟨_, _, xs, _, o, es, ep, h1, h2, _⟩ := (show ObjOk X.prog X.w H s.heap a (.dT kvs) from I.hok a _ ea)
    exact PySem.W.kia_one PySem.W.kitx_dict I.kIn ⟨o, h1, h2.1⟩ e (fun z => nomatch z) h
  | @ins a C dx fs ea cl ha hn htk hm =>
    cases (show u = Value.ref a from rx)
    obtain ⟨mA, O, _⟩ := ins_get I.hok ea
    obtain ⟨od, J, _⟩ := O.look
    exact PySem.W.kia_one (PySem.W.kitx_own (cl.get _) cl.hd ha hn htk hm) I.kIn J e (fun z => nomatch z) h
end
end L2

namespace L2
open PySem PySem.Spec PyProof.Rows

/-! ### room -/
structure Room (k : Nat) (A : Around) : Prop where
  hd : A.handled = none
  dp : A.depth + 3 * k + 5 < recursionLimit
  un : A.units + 16 * k + 200 < cLine
  gd : A.guards = some []
theorem Room.mono {j k : Nat} {A : Around} (r : Room k A) (h : j ≤ k) : Room j A := ⟨r.hd, by have := r.dp; omega, by have := r.un; omega, r.gd⟩
theorem Room.deeper {k : Nat} {A : Around} (r : Room (k + 1) A) (env : Env) : Room k (A.deeper env) :=
  ⟨r.hd, by have := r.dp; show A.depth + 1 + 3 * k + 5 < _; omega, by have := r.un; show A.units + 3 + 16 * k + 200 < _; omega, r.gd⟩
theorem Room.in1 {k : Nat} {A : Around} (r : Room (k + 1) A) : Room k A.in1 :=
  ⟨r.hd, by have := r.dp; show A.depth + 3 * k + 5 < _; omega, by have := r.un; show A.units + 1 + 16 * k + 200 < _; omega, r.gd⟩
theorem Room.depth {k : Nat} {A : Around} (r : Room k A) : A.depth < recursionLimit := by have := r.dp; omega
theorem Room.units {k : Nat} {A : Around} (r : Room k A) : A.units + 64 < cLine := by have := r.un; omega
theorem Room.units0 {k : Nat} {A : Around} (r : Room k A) : A.units < cLine := by have := r.un; omega

/-! ### argument lists and displays -/
def tNil : TA := fun _ H Q => Q [] H
def tCons (ta : TE) (tr : TA) : TA := fun σ H Q => ta σ H fun x H1 => tr σ H1 fun xs H2 => Q (x :: xs) H2
section
variable {X : Cx} {e : Expr} {es : List Expr} {te : TE} {t : TA} {pos : Pos}
theorem pa_nil : PA X [] tNil := fun _ _ _ _ H Q I h => Calls.spliced_nil ⟨[], H, I, .nil, h⟩
theorem pa_cons (ha : PE X e te) (hr : PA X es t) (hs : starEach (e :: es) X.env = (false, eval e X.env) :: starEach es X.env := by rfl) : PA X (e :: es) (tCons te t) := by
  intro pos pins s σ H Q I h
  rw [hs]
  show wpAny _ _ (spliced ((false, eval e X.env) :: backTo pos (starEach es X.env))) _ _ s
  refine Calls.spliced_cons (thn (ha pins s σ H _ I h) fun u s1 ⟨x, H1, I1, r1, q1⟩ => ?_)
  exact thn (hr pos pins s1 σ H1 _ I1 q1) fun us s2 ⟨xs, H2, I2, r2, q2⟩ => ⟨x :: xs, H2, I2, .cons r1 r2, q2⟩

/-- a tuple, a list of written items -/
def tTup (t : TA) : TE := fun σ H Q => t σ H fun xs H1 => xs.length ≤ sizeLine ∧ ∀ p, H1 p = none → Q (.ref p) (upd H1 p (.tup xs))
def tLst (t : TA) : TE := fun σ H Q => t σ H fun xs H1 => xs.length ≤ sizeLine ∧ ∀ p, H1 p = none → Q (.ref p) (upd H1 p (.lst xs))
theorem pe_tup {x1} (h : PA X es t) : PE X (.Tuple es x1 pos) (tTup t) := by
  intro pins s σ H Q I hq
  refine wpAny_Tuple_spliced (thn (h pos pins s σ H _ I hq) fun us s1 ⟨xs, H1, I1, r, z, q⟩ => ⟨by rw [← r.length]; exact z, ?_⟩)
  have hf : H1 s1.heap.objs.size = none := I1.hok.fresh (Nat.le_refl _)
  refine ⟨.ref s1.heap.objs.size, upd H1 s1.heap.objs.size (.tup xs), I1.laid (t' := s1.toks) (fun b u e => Heap.get?_push_of_some _ e) (Nat.le_refl _) ?_, rfl, q _ hf⟩
  exact ⟨z, us, r, ⟨_, Heap.get?_push_size _ rfl, rfl, _, rfl⟩⟩
theorem pe_lst (h : PA X es t) : PE X (.List es pos) (tLst t) := by
  intro pins s σ H Q I hq
  refine wpAny_List_spliced (thn (h pos pins s σ H _ I hq) fun us s1 ⟨xs, H1, I1, r, z, q⟩ => ⟨by rw [← r.length]; exact z, ?_⟩)
  have hf : H1 s1.heap.objs.size = none := I1.hok.fresh (Nat.le_refl _)
  refine ⟨.ref s1.heap.objs.size, upd H1 s1.heap.objs.size (.lst xs), I1.laid (t' := s1.toks) (fun b u e => Heap.get?_push_of_some _ e) (Nat.le_refl _) ?_, rfl, q _ hf⟩
  exact ⟨z, us, 0, r, Heap.get?_push_size _ rfl⟩
end

/-! ### what a def promises -/
/-- a def's promise: the bound arguments in the parameters' order, the heap, the wanted end, the wanted exception -/
abbrev Sp := List V → Hp → VK → XK → Prop
/-- how an exception lies behind a call (file 08 gives it): the callers' frames, abstract heap and state ahead of the call, the wish, the exception, the state -/
abbrev CXT := List Env → Hp → Shared → XK → Value → Shared → Prop

/-- the state at a call -/
structure Env0 (P : Program) (w : World) (K : PySem.W.Frag) (mg : Str → Option Value) (base : Heap) (A : Around) (outer : List Env) (s : Shared) (H : Hp) : Prop where
  frames : A.frames = some outer
  mod : Mod K mg base
  bs : ∀ b o, base.get? b = some o → s.heap.get? b = some o ∧ H b = none
  bsz : base.objs.size ≤ s.heap.objs.size
  funs : s.heap.FunFrames base outer
  frf : ∀ b ∈ frs outer, H b = none
  hok : HOk P w H s.heap
  bare : AllBare s.gens
/-- a call's end -/
def CE (outer : List Env) (P : Program) (w : World) (H : Hp) (s : Shared) (Q : VK) (u : Value) (s' : Shared) : Prop :=
  ∃ v H', s'.os = s.os ∧ AllBare s'.gens ∧ Un (frs outer) [] H H' s.heap s'.heap ∧ HOk P w H' s'.heap ∧ RelV v u ∧ Q v H'
def CR (CX : CXT) (outer : List Env) (P : Program) (w : World) (H : Hp) (s : Shared) (Q : VK) (E : XK) (r : Result) (s' : Shared) : Prop :=
  match r with
  | .ok (.ret u) => CE outer P w H s Q u s'
  | .ok _ => False
  | .error e => CX outer H s E e s'
structure FnOk (P : Program) (w : World) (K : PySem.W.Frag) (mg : Str → Option Value) (base : Heap) (CX : CXT) (k : Nat) (f : Addr) (fd : FuncData) (ps : List Str) (sp : Sp) : Prop where
  len : ∀ vs H Q E, sp vs H Q E → vs.length = ps.length
  run : ∀ (A : Around) (outer : List Env) (s : Shared) (H : Hp) (args : Args) (us : List Value) (vs : List V) (Q : VK) (E : XK), Room k A → Env0 P w K mg base A outer s H → BindsTo s fd args (ps.zip us) → Vals vs us → sp vs H Q E →
    codeAny (model P w) A (.call (.ref f) args) (CR CX outer P w H s Q E) s
theorem FnOk.mono {P : Program} {w : World} {K : PySem.W.Frag} {mg : Str → Option Value} {base : Heap} {CX : CXT} {j k : Nat} {f : Addr} {fd : FuncData} {ps : List Str} {sp : Sp} (F : FnOk P w K mg base CX j f fd ps sp) (h : j ≤ k) :
    FnOk P w K mg base CX k f fd ps sp := ⟨F.len, fun A outer s H args us vs Q E hr => F.run A outer s H args us vs Q E (hr.mono h)⟩
/-- a weaker promise -/
theorem FnOk.imp {P : Program} {w : World} {K : PySem.W.Frag} {mg : Str → Option Value} {base : Heap} {CX : CXT} {k : Nat} {f : Addr} {fd : FuncData} {ps : List Str} {sp sp' : Sp} (F : FnOk P w K mg base CX k f fd ps sp)
    (h : ∀ vs H Q E, sp' vs H Q E → sp vs H Q E) : FnOk P w K mg base CX k f fd ps sp' :=
  ⟨fun vs H Q E q => F.len vs H Q E (h _ _ _ _ q), fun A outer s H args us vs Q E hr he hb hv hs => F.run A outer s H args us vs Q E hr he hb hv (h _ _ _ _ hs)⟩

theorem Env0.in1 {P : Program} {w : World} {K : PySem.W.Frag} {mg : Str → Option Value} {base : Heap} {A : Around} {outer : List Env} {s : Shared} {H : Hp} (e : Env0 P w K mg base A outer s H) :
    Env0 P w K mg base A.in1 outer s H := ⟨e.frames, e.mod, e.bs, e.bsz, e.funs, e.frf, e.hok, e.bare⟩

section
variable {X : Cx} {pins : List (Addr × Obj)} {σ : St} {H : Hp} {s s' : Shared}
/-- from a body: what a callee wants -/
theorem Inv.env0 (I : Inv X pins σ H s) : Env0 X.prog X.w X.K X.mg X.base X.A X.stack s H :=
  ⟨I.ok.frames, I.ok.mod, I.bs, Nat.le_trans I.ok.bsz I.sz, I.stack, I.stkFree, I.hok, I.bare⟩
/-- behind a call -/
theorem Inv.after {Q : VK} {u : Value} (I : Inv X pins σ H s) (h : CE X.stack X.prog X.w H s Q u s') : EP X pins σ Q u s' := by
  obtain ⟨v, H', os, bare, un, hok, r, q⟩ := h
  obtain ⟨hh, g, d, t, os'⟩ := s'
  obtain rfl : os' = s.os := os
  exact ⟨v, H', I.call (h' := hh) (g' := g) (d' := d) (t' := t) (ch := []) un hok bare (fun b z => absurd z (by simp)), r, q⟩
end

/-! ### calls -/
/-- f(..): the written arguments, then the defaults dvs; E: what is wanted of an exception -/
def tCall (sp : Sp) (dvs : List V) (E : XK) (t : TA) : TE := fun σ H Q => t σ H fun vs H1 => sp (vs ++ dvs) H1 Q E

/-- how the parameters are bound: us the positional arguments, kw the keywords' values by name, ds the defaults that fill up -/
def Binds (K : PySem.W.Frag) (fd : FuncData) (ps : List Str) (ds : List Value) : Prop :=
  ∀ (s : Shared) (us : List Value), K.In s.heap → (us ++ ds).length = ps.length → BindsTo s fd ⟨us, []⟩ (ps.zip (us ++ ds))
/-- every parameter is given -/
theorem Binds.all {K : PySem.W.Frag} {fd : FuncData} {ps : List Str} (h : ∀ us : List Value, us.length = ps.length → bindArgs fd ⟨us, []⟩ = pure (ps.zip us)) : Binds K fd ps [] := fun s us _ hl => by
  rw [List.append_nil] at hl ⊢
  exact .of_eq (h us hl)

/-- an exception of a callee reaches what this body wants of exceptions -/
def Passes (CX : CXT) (X : Cx) (E : XK) : Prop := ∀ (pins : List (Addr × Obj)) (σ : St) (H : Hp) (s : Shared) (e : Value) (s' : Shared), Inv X pins σ H s → CX X.stack H s E e s' → X.xe e s'

section
variable {X : Cx} {CX : CXT} {k : Nat} {f C : Addr} {fd : FuncData} {ps : List Str} {sp : Sp} {dvs : List V} {ds : List Value} {E : XK} {x m : Str} {p pos apos : Pos} {e o : Expr} {es : List Expr} {ta : TE} {t : TA}

/-- the callee runs -/
theorem run_fn {pins : List (Addr × Obj)} {σ : St} {H : Hp} {s : Shared} {Q : VK} {us : List Value} {vs : List V} (F : FnOk X.prog X.w X.K X.mg X.base CX k f fd ps sp) (hr : Room k X.A) (hb : Binds X.K fd ps ds) (hd : Vals dvs ds) (hx : Passes CX X E)
    (I : Inv X pins σ H s) (r : Vals vs us) (h : sp (vs ++ dvs) H Q E) : wpAny (model X.prog X.w) X.A (call (.ref f) us) (EP X pins σ Q) X.xe s := by
  have r2 : Vals (vs ++ dvs) (us ++ ds) := r.append hd
  have hl : (us ++ ds).length = ps.length := by rw [← r2.length]; exact F.len _ _ _ _ h
  refine wpAny_call (codeAny_mono (F.run X.A X.stack s H ⟨us, []⟩ (us ++ ds) (vs ++ dvs) Q E hr I.env0 (hb s us I.kIn hl) r2 h) fun r s' hq => ?_)
  cases r with
  | error e => exact hx pins σ H s e s' I hq
  | ok fl =>
    cases fl with
    | ret u => exact I.after hq
    | next => exact False.elim hq
    | brk => exact False.elim hq
    | cont => exact False.elim hq

theorem pe_call (F : FnOk X.prog X.w X.K X.mg X.base CX k f fd ps sp) (hr : Room k X.A) (hg : Gl X x) (hm : X.mg x = some (.ref f)) (hk : PySem.W.keepIn X.K (.ref f) = true) (hb : Binds X.K fd ps ds) (hd : Vals dvs ds) (hx : Passes CX X E)
    (ha : PA X (e :: es) t) (hdb : (x == ("__debug__" : Str)) = false := by decide) (he : starEach (e :: es) X.env = (false, eval e X.env) :: starEach es X.env := by rfl) (hpl : (backTo pos (starEach es X.env)).any (·.1) = false := by rfl) :
    PE X (.Call (.Name x p) (e :: es) [] pos) (tCall sp dvs E t) := by
  intro pins s σ H Q I h
  refine wpAny_Call_Name_kw (ld_glob I hg hm ?_ hdb)
  refine PySem.W.callWith_K (h₀ := X.base) I.ok.mod.kin hk (thn (ha pos pins s σ H _ I h) fun us s1 ⟨vs, H1, I1, r, q⟩ => ⟨I1.kIn, ?_⟩) he hpl
  exact run_fn F hr hb hd hx I1 r q
theorem pe_call0 (F : FnOk X.prog X.w X.K X.mg X.base CX k f fd ps sp) (hr : Room k X.A) (hg : Gl X x) (hm : X.mg x = some (.ref f)) (hk : PySem.W.keepIn X.K (.ref f) = true) (hb : Binds X.K fd ps ds) (hd : Vals dvs ds) (hx : Passes CX X E)
    (hdb : (x == ("__debug__" : Str)) = false := by decide) : PE X (.Call (.Name x p) [] [] pos) (tCall sp dvs E tNil) := by
  intro pins s σ H Q I h
  refine wpAny_Call_Name_kw (ld_glob I hg hm ?_ hdb)
  exact PySem.W.callWith_K0 I.kIn hk (run_fn (us := []) F hr hb hd hx I .nil h)


/-- what a class must have to be made -/
structure Mk (K : PySem.W.Frag) (C f : Addr) : Prop where
  makes : PySem.W.makesIn K C = true
  init : PySem.W.findIn K (.ref C) "__init__" = some (some (.ref f))
  fn : PySem.W.isFn K (.ref f) = true
  kp : PySem.W.keepIn K (.ref C) = true

end

/-! ### keywords -/
section
variable {X : Cx} {CX : CXT} {k : Nat} {f C : Addr} {fd : FuncData} {ps ks : List Str} {sp : Sp} {E : XK} {x m : Str} {p pos apos kpos : Pos} {e o : Expr} {es : List Expr} {kws : List Keyword} {te ta : TE} {t tk : TA} {nm : Option Str}

/-- how a call with keywords binds: g puts the positional values us and the keywords' values ws (names ks) in the parameters' order, defaults among them -/
structure KBinds (K : PySem.W.Frag) (fd : FuncData) (ps ks : List Str) (g : List Value → List Value → List Value) (gV : List V → List V → List V) : Prop where
  to : ∀ (s : Shared) (us ws : List Value), K.In s.heap → (g us ws).length = ps.length → BindsTo s fd ⟨us, ks.zip ws⟩ (ps.zip (g us ws))
  rel : ∀ {vs : List V} {us : List Value} {zs : List V} {ws : List Value}, Vals vs us → Vals zs ws → Vals (gV vs zs) (g us ws)
variable {g : List Value → List Value → List Value} {gV : List V → List V → List V}
end

/-! ### a def's body keeps its promise -/
/-- names: the parameters first -/
structure FnScope (N P : List Str) (sc : Scope) : Prop where
  kind : sc.kind = .function
  co : sc.isCoroutine = false
  gen : sc.isGenerator = false
  nd : N.Nodup
  pre : N.take P.length = P
  par : ∀ x ∈ P, sc.names.lookup x = some .local ∨ sc.names.lookup x = some .cell
  nofree : ∀ y ∈ sc.names, y.2 ≠ .free

theorem bindL_out {kindOf : Str → Option NameKind} {x : Str} : ∀ {binds : List (Str × Value)} {m : Str → Option Value}, (∀ v, (x, v) ∉ binds) → bindL kindOf binds m x = m x
  | [], _, _ => rfl
  | (n, v) :: r, m, h => by
    unfold bindL
    rw [bindL_out fun w hw => h w (List.mem_cons_of_mem _ hw)]
    split
    · have : x ≠ n := by rintro rfl; exact h v List.mem_cons_self
      simp [this]
    · rfl
theorem bindC_out {kindOf : Str → Option NameKind} {x : Str} : ∀ {binds : List (Str × Value)} {m : Str → Option Value}, (∀ v, (x, v) ∉ binds) → bindC kindOf binds m x = m x
  | [], _, _ => rfl
  | (n, v) :: r, m, h => by
    unfold bindC
    rw [bindC_out fun w hw => h w (List.mem_cons_of_mem _ hw)]
    split
    · rfl
    · have : x ≠ n := by rintro rfl; exact h v List.mem_cons_self
      simp [this]
theorem bindL_get {kindOf : Str → Option NameKind} {x : Str} {v : Value} : ∀ {P : List Str} {vs : List Value} {i : Nat} {m : Str → Option Value}, P.Nodup → P[i]? = some x → vs[i]? = some v → kindOf x = some .local →
    bindL kindOf (P.zip vs) m x = some v
  | [], _, _, _, _, h, _, _ => by simp at h
  | _ :: _, [], _, _, _, _, h, _ => by simp at h
  | p :: P, w :: vs, 0, m, nd, h1, h2, hk => by
    simp at h1 h2; subst h1; subst h2
    show bindL kindOf ((p, w) :: P.zip vs) m p = _
    unfold bindL
    rw [bindL_out fun v hv => (List.nodup_cons.mp nd).1 (List.of_mem_zip hv).1, if_pos hk]
    simp
  | p :: P, w :: vs, i + 1, m, nd, h1, h2, hk => by
    show bindL kindOf ((p, w) :: P.zip vs) m x = _
    unfold bindL
    exact bindL_get (i := i) (List.nodup_cons.mp nd).2 (by simpa using h1) (by simpa using h2) hk
theorem bindC_get {kindOf : Str → Option NameKind} {x : Str} {v : Value} : ∀ {P : List Str} {vs : List Value} {i : Nat} {m : Str → Option Value}, P.Nodup → P[i]? = some x → vs[i]? = some v → kindOf x ≠ some .local →
    bindC kindOf (P.zip vs) m x = some v
  | [], _, _, _, _, h, _, _ => by simp at h
  | _ :: _, [], _, _, _, _, h, _ => by simp at h
  | p :: P, w :: vs, 0, m, nd, h1, h2, hk => by
    simp at h1 h2; subst h1; subst h2
    show bindC kindOf ((p, w) :: P.zip vs) m p = _
    unfold bindC
    rw [bindC_out fun v hv => (List.nodup_cons.mp nd).1 (List.of_mem_zip hv).1, if_neg hk]
    simp
  | p :: P, w :: vs, i + 1, m, nd, h1, h2, hk => by
    show bindC kindOf ((p, w) :: P.zip vs) m x = _
    unfold bindC
    exact bindC_get (i := i) (List.nodup_cons.mp nd).2 (by simpa using h1) (by simpa using h2) hk

/-- the names' values at the entry -/
def start (N : List Str) (vs : List V) : St := vs.map some ++ List.replicate (N.length - vs.length) none

/-- the context of a def's body, at its entry; an exception leaves the frame, then lies as CX says -/
def cxOf (CX : CXT) (P : Program) (w : World) (K : PySem.W.Frag) (mg : Str → Option Value) (base : Heap) (N : List Str) (qual : Str) (scope : Scope) (f : Addr) (cd : Value) (A : Around) (outer : List Env) (s : Shared) (H : Hp) (E : XK) : Cx where
  prog := P
  w := w
  K := K
  mg := mg
  base := base
  A := A.deeper (envOfC qual scope s.heap.objs.size f cd)
  N := N
  s₀ := s
  H₀ := H
  env := envOfC qual scope s.heap.objs.size f cd
  outer := outer
  stack := envOfC qual scope s.heap.objs.size f cd :: outer
  ex := []
  calm := true
  fn := fun _ => true
  pn := []
  xe := fun e s' => wpAny (model P w) (A.deeper (envOfC qual scope s.heap.objs.size f cd)) (leaving (envOfC qual scope s.heap.objs.size f cd) e) (fun _ s'' => CX outer H s E e s'') (fun e' s'' => CX outer H s E e' s'') s'

theorem cell_has {sc : Scope} {n : Nat} {x : Str} (h : sc.names.lookup x = some .cell) : ∃ c, (cellsFrom n sc.names []).lookup x = some c := by
  have q := PySem.W.cellsFrom_some sc.names n [] (.inl h)
  exact Option.isSome_iff_exists.mp q

theorem inv_start {CX : CXT} {P : Program} {w : World} {K : PySem.W.Frag} {mg : Str → Option Value} {base : Heap} {N ps : List Str} {qual : Str} {scope : Scope} {f : Addr} {cd : Value} {A : Around} {outer : List Env} {s s1 : Shared} {H : Hp} {E : XK} {us : List Value} {vs : List V}
    (S : FnScope N ps scope) (hd : A.handled = none) (e0 : Env0 P w K mg base A outer s H) (hl : vs.length = ps.length) (r : Vals vs us)
    (x : InCallC s s.heap.objs.size (bindL (envOfC qual scope s.heap.objs.size f cd).kindOf (ps.zip us) fun _ => none) (cellsFrom (s.heap.objs.size + 1) scope.names []) (bindC (envOfC qual scope s.heap.objs.size f cd).kindOf (ps.zip us) fun _ => none) s1) :
    Inv (cxOf CX P w K mg base N qual scope f cd A outer s H E) [] (start N vs) H s1 := by
  have hpl : ps.length ≤ N.length := by have := congrArg List.length S.pre; rw [List.length_take] at this; omega
  obtain ⟨h1, tk, rfl, hk⟩ := x.done
  have noA : ∀ b : Addr, b ∉ (cxOf CX P w K mg base N qual scope f cd A outer s H E).ex := fun b z => absurd (show b ∈ ([] : List Addr) from z) (by simp)
  refine ⟨⟨e0.mod, S.kind, rfl, rfl, Nat.le_refl _, fun y z c h1 h2 => ?_, fun y hy => ?_, fun y c _ h => ?_, fun _ => hd, Around.frames_deeper e0.frames, .inr ⟨rfl, rfl⟩, fun b z => absurd z (noA b), e0.bs, e0.bsz, fun b _ _ => noA b, fun b z => absurd z (noA b), e0.funs, e0.frf⟩,
    rfl, e0.bare, Un.kept hk, ⟨_, x.toInCall.ns, fun i y v h1 h2 h3 => ?_⟩, fun y c h => ⟨_, x.cell y c h⟩, e0.hok.fresh (Nat.le_refl _), fun y c h => ?_, fun p hp => absurd (show p ∈ ([] : List (Addr × Obj)) from hp) (by simp), e0.hok.kept hk, ?_⟩
  · exact name_of_addr x.apart (PySem.mem_of_lookup h1) (PySem.mem_of_lookup h2)
  · have hy : scope.names.lookup y = some .cell ∨ scope.names.lookup y = some .free := hy
    rcases hy with hy | hy
    · exact cell_has hy
    · exact absurd rfl (S.nofree _ (PySem.mem_of_lookup hy))
  · exact Nat.le_of_lt (x.above y c (PySem.mem_of_lookup h))
  · have hi : i < vs.length := by
      unfold start at h2
      by_cases hi : i < vs.length
      · exact hi
      · rw [List.getElem?_append_right (by simpa using hi)] at h2
        rw [List.getElem?_replicate] at h2
        split at h2 <;> cases h2
    have ha : vs[i]? = some v := by
      unfold start at h2
      rw [List.getElem?_append_left (by simpa using hi), List.getElem?_map] at h2
      cases e : vs[i]? with
      | none => rw [e] at h2; cases h2
      | some a => rw [e] at h2; cases h2; rfl
    obtain ⟨u, hu, rv⟩ := r.get ha
    have hp : ps[i]? = some y := by
      rw [← S.pre, List.getElem?_take_of_lt (by omega)]; exact h1
    have ndP : ps.Nodup := by rw [← S.pre]; exact S.nd.sublist (List.take_sublist _ _)
    refine ⟨u, rv, ?_⟩
    rcases S.par y (List.mem_of_getElem? hp) with k | k
    · exact .inl ⟨k, bindL_get ndP hp hu k⟩
    · obtain ⟨c, e⟩ := cell_has (n := s.heap.objs.size + 1) k
      refine .inr ⟨.inl k, c, e, ?_⟩
      have q := x.cell y c e
      rw [bindC_get ndP hp hu (by show scope.names.lookup y ≠ _; rw [k]; decide)] at q
      exact q
  · exact e0.hok.fresh (Nat.le_of_lt (x.above y c (PySem.mem_of_lookup h)))
  · unfold start
    show _ = N.length
    rw [List.length_append, List.length_map, List.length_replicate]
    omega

/-- THE RULE: a def (or a method) of the text, by its body. The body's reading t is chosen for each entry; it is run at the parameters' values -/
theorem fn_of {CX : CXT} {P : Program} {w : World} {K : PySem.W.Frag} {mg : Str → Option Value} {base : Heap} {k : Nat} {f : Addr} {name qual : Str} {params : Arguments} {body : List Stmt} {scope : Scope} {dV kV doc pm cdv ct oc : Value} {an od : Option Addr}
    {osl : Array (Option Value)} {N ps : List Str} {sp : Sp} (lk : K.lookup f = some ⟨oc, od, .func (PySem.W.fnOf name qual params body scope dV kV doc pm an cdv ct), osl⟩) (hcd : PySem.W.codeIn K cdv qual = true) (S : FnScope N ps scope)
    (len : ∀ vs H Q E, sp vs H Q E → vs.length = ps.length)
    (hbody : ∀ (A : Around) (outer : List Env) (s : Shared) (H : Hp) (vs : List V) (Q : VK) (E : XK), Room k (A.deeper (envOfC qual scope s.heap.objs.size f cdv)) → sp vs H Q E →
      ∃ t, PSs (cxOf CX P w K mg base N qual scope f cdv A outer s H E) body t ∧ t { nx := fun _ H' => Q .non H', rt := Q } (start N vs) H) :
    FnOk P w K mg base CX (k + 1) f (PySem.W.fnOf name qual params body scope dV kV doc pm an cdv ct) ps sp := by
  refine ⟨len, fun A outer s H args us vs Q E hr e0 hb r hsp => ?_⟩
  have hl := len _ _ _ _ hsp
  have KX : K.In s.heap := e0.mod.kin.keeps fun b o e => (e0.bs b o e).1
  have lim : s.heap.NoLimit := e0.mod.nolimit.keeps fun b o e => (e0.bs b o e).1
  have hkind : ∀ y ∈ ps.zip us, scope.names.lookup y.1 = some .local ∨ (scope.names.lookup y.1 = some .cell ∧ ((cellsFrom (s.heap.objs.size + 1) scope.names []).lookup y.1).isSome = true) := fun ⟨n, v⟩ hy => by
    rcases S.par n (List.of_mem_zip hy).1 with q | q
    · exact .inl q
    · exact .inr ⟨q, PySem.W.cellsFrom_some _ _ _ (.inl q)⟩
  refine codeAny_call_function hr.depth (KX _ _ lk) rfl S.co S.gen rfl (PySem.W.codeRec_of KX hcd) (hb _ _ _ _ ?_)
  refine wpAny_newFunctionEnv_cells S.kind hkind fun env he s1 x => ?_
  subst he
  refine ⟨lim.keeps x.toInCall.keep, codeAny_func ?_⟩
  obtain ⟨t, ht, hq⟩ := hbody A outer s H vs Q E (hr.deeper _) hsp
  have I : Inv (cxOf CX P w K mg base N qual scope f cdv A outer s H E) [] (start N vs) H s1 := inv_start S hr.hd e0 hl r x
  refine wpAny_mono (ht [] s1 (start N vs) H _ I hq) (fun fl s' hs => ?_) fun e s' hs => hs
  have fin : ∀ {σ' : St} {H' : Hp} {v : V} {u : Value}, Inv (cxOf CX P w K mg base N qual scope f cdv A outer s H E) [] σ' H' s' → RelV v u → Q v H' → CE outer P w H s Q u s' :=
    fun {σ' H' v u} J rv q => ⟨v, H', J.os, J.bare, J.base, J.hok, rv, q⟩
  cases fl with
  | ret u =>
    obtain ⟨v, σ', H', J, rv, q⟩ := hs
    exact fin J rv q
  | next =>
    obtain ⟨σ', H', J, q⟩ := hs
    exact fin (v := V.non) (u := Value.none) J rfl q
  | brk =>
    obtain ⟨_, _, _, q⟩ := hs
    exact False.elim q
  | cont =>
    obtain ⟨_, _, _, q⟩ := hs
    exact False.elim q
end L2

namespace L2
open PySem PySem.Spec PyProof.Rows
section
variable {X : Cx} {x : Str} {p pos : Pos} {e : Expr} {es : List Expr} {t : TA} {id T : String} {r : List V → Hp → VK → Prop}

def tCB (r : List V → Hp → VK → Prop) (t : TA) : TE := fun σ H Q => t σ H fun vs H1 => r vs H1 Q
/-- f(e, ..), f a built-in function -/
theorem pe_callB (hc : CallR X (.builtin id) r) (hg : Gl X x) (hm : X.mg x = none) (hv : bootBuiltins x = some (.builtin id)) (ha : PA X (e :: es) t) (hn : x ≠ "__name__" := by decide) (hdb : (x == ("__debug__" : Str)) = false := by decide)
    (he : starEach (e :: es) X.env = (false, eval e X.env) :: starEach es X.env := by rfl) (hpl : (backTo pos (starEach es X.env)).any (·.1) = false := by rfl) : PE X (.Call (.Name x p) (e :: es) [] pos) (tCB r t) := by
  intro pins s σ H Q I h
  refine wpAny_Call_Name_kw (ld_blt I hg hm hv ?_ hn hdb)
  exact PyProof.Rows.callWith_builtin1 (thn (ha pos pins s σ H _ I h) fun us s1 ⟨vs, H1, I1, r1, q1⟩ => hc pins s1 σ H1 vs us Q I1 r1 q1) he hpl
/-- T(e, ..), T a built-in type -/
theorem pe_callTy (hc : CallR X (.type T) r) (hg : Gl X x) (hm : X.mg x = none) (hv : bootBuiltins x = some (.type T)) (ha : PA X (e :: es) t) (hn : x ≠ "__name__" := by decide) (hdb : (x == ("__debug__" : Str)) = false := by decide)
    (he : starEach (e :: es) X.env = (false, eval e X.env) :: starEach es X.env := by rfl) (hpl : (backTo pos (starEach es X.env)).any (·.1) = false := by rfl) : PE X (.Call (.Name x p) (e :: es) [] pos) (tCB r t) := by
  intro pins s σ H Q I h
  refine wpAny_Call_Name_kw (ld_blt I hg hm hv ?_ hn hdb)
  exact PyProof.Rows.callWith_type1 (thn (ha pos pins s σ H _ I h) fun us s1 ⟨vs, H1, I1, r1, q1⟩ => hc pins s1 σ H1 vs us Q I1 r1 q1) he hpl
end
end L2

namespace HT
open PySem PyProof.Rows



section
open PySem.SeqAt
open PySem.AutoSeq1 (wpAny_loadPart')
open PySem.MeetsSeq PySem.MeetsSeq2 PySem.MeetsSeq3

end

section
variable {prog : Program} {w : World} {A : Around} {E : Value → Shared → Prop} {s : Shared}


/-- t + u, t not empty -/
theorem cat_tup {t b : Addr} {vs ws : List Value} {Q : Value → Shared → Prop} (ht : IsTup s.heap t vs.toArray) (hb : IsTup s.heap b ws.toArray) (hv : vs ≠ [])
    (h1 : ws = [] → Q (.ref t) s) (h2 : ws ≠ [] → Q (.ref s.heap.objs.size) { s with heap := s.heap.push { cls := .type "tuple", data := .seq (vs ++ ws).toArray } })
    (hsz : vs.length + ws.length ≤ sizeLine) : wpAny (model prog w) A (binaryOp .Add (.ref t) (.ref b)) Q E s := by
  obtain ⟨⟨cls, dd, data, sl⟩, ho, hc, n, hd⟩ := id ht
  obtain ⟨⟨cls2, dd2, data2, sl2⟩, ho2, hc2, n2, hd2⟩ := id hb
  simp only at hc hd hc2 hd2
  subst hc hd hc2 hd2
  have e : vs.toArray ++ ws.toArray = (vs ++ ws).toArray := by simp
  by_cases hw : ws = []
  · exact concat_meets ⟨_, ho, rfl⟩ ⟨_, ho2, rfl⟩ noFill_tuple_add seq_tuple_add PySem.F.slot_tuple_add PySem.F.entry_tuple_add (PySem.F.args_tuple_add_2 _ _)
      (tuple_addW1 t b vs.toArray ws.toArray n n2 dd dd2 sl sl2 (by simpa using hv) (by simp [hw])) ⟨ho, ho2, h1 hw⟩
  · refine concat_meets ⟨_, ho, rfl⟩ ⟨_, ho2, rfl⟩ noFill_tuple_add seq_tuple_add PySem.F.slot_tuple_add PySem.F.entry_tuple_add (PySem.F.args_tuple_add_2 _ _)
      (tuple_addW2 t b vs.toArray ws.toArray n n2 dd dd2 sl sl2 (by simpa using hv) (by simpa using hw) (by rw [List.size_toArray, List.size_toArray]; exact hsz)) ⟨ho, ho2, ?_⟩
    rw [e]
    exact h2 hw

/-! ### t[a:b], not the whole -/
/-- a slice's bound as a place among n (d where it is left out) -/
def sIx (n d : Nat) : Option Int → Nat
  | none => d
  | some v => if v < 0 then (v + (n : Int)).toNat else min v.toNat n
theorem sIx_le (n d : Nat) (hd : d ≤ n) (o : Option Int) : sIx n d o ≤ n := by
  cases o with
  | none => exact hd
  | some v =>
    show (if v < 0 then (v + (n : Int)).toNat else min v.toNat n) ≤ n
    by_cases hv : v < 0
    · rw [if_pos hv]; omega
    · rw [if_neg hv]; exact Nat.min_le_right _ _
theorem clip_eq (v : Int) (n d : Nat) : (if v < 0 then max (v + (n : Int)) 0 else min v (n : Int)) = ((sIx n d (some v) : Nat) : Int) := by
  show (if v < 0 then max (v + (n : Int)) 0 else min v (n : Int)) = (((if v < 0 then (v + (n : Int)).toNat else min v.toNat n) : Nat) : Int)
  by_cases hv : v < 0
  · simp only [if_pos hv]; omega
  · simp only [if_neg hv]; omega
theorem adjust_gen (lo hi : Option Int) (n : Nat) : Builtin.Slice.sliceAdjust lo hi 1 (n : Int) = (((sIx n 0 lo : Nat) : Int), ((sIx n n hi : Nat) : Int)) := by
  have h1 : ¬ ((1 : Int) < 0) := by omega
  unfold Builtin.Slice.sliceAdjust
  simp only [h1, if_false]
  refine Prod.ext ?_ ?_
  · cases lo with
    | none => rfl
    | some v => exact clip_eq v n 0
  · cases hi with
    | none => rfl
    | some v => exact clip_eq v n n
theorem places_gen (i j : Nat) : Builtin.Slice.slicePlaces (i : Int) (j : Int) 1 = j - i := by
  unfold Builtin.Slice.slicePlaces
  have h1 : (1 : Int) > 0 := by omega
  simp only [h1, if_true, Int.ediv_one]
  split <;> omega
theorem slicePart_ {v : Value} {o : Option Int} {Q : Option Int → Shared → Prop} (p : IsPart v o) (h : Q o s) : wpAny (model prog w) A (Builtin.Slice.slicePartIndex v) Q E s := by
  cases p with
  | none => exact slicePart_none h
  | int i t => exact slicePart_int h
theorem sliceApplied_gen {sl : Addr} {vl vu : Value} {lo hi : Option Int} {n : Nat} {Q : Int × Int × Nat → Shared → Prop} (hs : s.heap.IsSliceOf sl vl vu .none) (pl : IsPart vl lo) (pu : IsPart vu hi)
    (h : Q (((sIx n 0 lo : Nat) : Int), 1, sIx n n hi - sIx n 0 lo) s) : wpAny (model prog w) A (Builtin.Slice.sliceApplied (.ref sl) (pure (n : Int))) Q E s := by
  obtain ⟨os, hos, hcs, hds⟩ := id hs
  unfold Builtin.Slice.sliceApplied Builtin.Slice.sliceFields
  refine wpAny_bind (wpAny_bind (wpAny_field hos hds (x := vl) rfl (wpAny_bind (wpAny_field hos hds (x := vu) rfl (wpAny_bind (wpAny_field hos hds (x := .none) rfl (wpAny_pure ?_)))))))
  refine wpAny_bind (slicePart_none ?_)
  show wpAny _ _ (if ((1 : Int) == 0) = true then _ else _) _ _ s
  rw [if_neg (by decide)]
  refine wpAny_bind (slicePart_ pl (wpAny_bind (slicePart_ pu (wpAny_bind (wpAny_pure ?_)))))
  show wpAny _ _ (match Builtin.Slice.sliceAdjust lo hi 1 (n : Int) with | (lo, hi) => pure (lo, (1 : Int), Builtin.Slice.slicePlaces lo hi 1)) _ _ s
  rw [adjust_gen lo hi n]
  show wpAny _ _ (pure (((sIx n 0 lo : Nat) : Int), (1 : Int), Builtin.Slice.slicePlaces ((sIx n 0 lo : Nat) : Int) ((sIx n n hi : Nat) : Int) 1)) _ _ s
  rw [places_gen]
  exact wpAny_pure h
theorem pick_gen (xs : Array Value) (i k : Nat) : ((List.range k).filterMap fun (m : Nat) => xs[((i : Int) + (m : Int) * 1).toNat]?).toArray = ((xs.toList.drop i).take k).toArray := by
  have e : (fun (m : Nat) => xs[((i : Int) + (m : Int) * 1).toNat]?) = fun m => xs[i + m]? := by
    funext m
    have : ((i : Int) + (m : Int) * 1).toNat = i + m := by omega
    rw [this]
  rw [e]
  have := pick_run xs i k
  rw [List.filterMap_map] at this
  have e2 : ((fun x => xs[x]?) ∘ fun x => i + x) = fun m => xs[i + m]? := rfl
  rw [e2] at this
  rw [this]

theorem getItem_tuple_cut {t sl : Addr} {items : Array Value} {vl vu : Value} {lo hi : Option Int} {Q : Value → Shared → Prop} (ht : IsTup s.heap t items) (hs : s.heap.IsSliceOf sl vl vu .none) (pl : IsPart vl lo) (pu : IsPart vu hi)
    (hw : ¬ (sIx items.size 0 lo = 0 ∧ sIx items.size items.size hi = items.size))
    (h : Q (.ref s.heap.objs.size) { s with heap := s.heap.push { cls := .type "tuple", data := .seq ((items.toList.drop (sIx items.size 0 lo)).take (sIx items.size items.size hi - sIx items.size 0 lo)).toArray } })
    (hsz : items.size ≤ sizeLine) : wpAny (model prog w) A (getItem (.ref t) (.ref sl)) Q E s := by
  have htake : sizeOk (.seq ((items.toList.drop (sIx items.size 0 lo)).take (sIx items.size items.size hi - sIx items.size 0 lo)).toArray) := by
    show ((items.toList.drop (sIx items.size 0 lo)).take (sIx items.size items.size hi - sIx items.size 0 lo)).toArray.size ≤ sizeLine
    rw [List.size_toArray, List.length_take, List.length_drop, Array.length_toList]
    omega
  have hj : sIx items.size items.size hi ≤ items.size := sIx_le _ _ (Nat.le_refl _) hi
  obtain ⟨os, hos, hcs, hds⟩ := id hs
  have hTs : s.TypeIs (.ref sl) "slice" := ⟨os, hos, hcs⟩
  unfold getItem
  try with_reducible refine wpAny_holding ?_
  first | refine wpAny_bind (wpAny_pure ?_) | skip
  refine wpAny_bind (wpAny_sequenceKey ht.typeIs (by decide) ?_)
  refine wpAny_bind (wpAny_callSpecial?_slot (name := Str.ofString "__getitem__") ht.typeIs PyProof.Rows.slot_tuple_getitem
    (wpAny_call_entry PyProof.Rows.slot_tuple_getitem ht.typeIs entry_tuple_getitem ?_ (args_tuple_getitem _ _)))
  show wpAny _ _ (Builtin.Tuple.tupleItemsOf (.ref t) >>= _) _ _ s
  refine wpAny_bind (tupleItemsOf_ ht ?_)
  refine wpAny_bind (wpAny_typeOf hTs ?_)
  rw [if_pos (by decide)]
  refine wpAny_bind (sliceApplied_gen hs pl pu ?_)
  have hno : ¬ ((((sIx items.size 0 lo : Nat) : Int) == 0 && (1 : Int) == 1 && (sIx items.size items.size hi - sIx items.size 0 lo) == items.size) = true) := by
    intro q
    rw [Bool.and_eq_true, Bool.and_eq_true] at q
    have q1 : ((sIx items.size 0 lo : Nat) : Int) = 0 := eq_of_beq q.1.1
    have q2 : sIx items.size items.size hi - sIx items.size 0 lo = items.size := eq_of_beq q.2
    exact hw ⟨by omega, by omega⟩
  show wpAny _ _ (if (((sIx items.size 0 lo : Nat) : Int) == 0 && (1 : Int) == 1 && (sIx items.size items.size hi - sIx items.size 0 lo) == items.size) = true then _ else _) _ _ s
  rw [if_neg hno, pick_gen]
  first
    | exact wpAny_bind (m := Builtin.Tuple.tupleExact _) (wpAny_newObj_type (wpAny_pure ⟨_, rfl, wpAny_pure h⟩) htake)
    | exact wpAny_bind (m := Builtin.Tuple.tupleExact _) (wpAny_newObj_type (wpAny_bind (wpAny_pure (wpAny_pure ⟨_, rfl, wpAny_pure h⟩))) htake)
    | exact wpAny_bind (wpAny_bind (m := Builtin.Tuple.tupleExact _) (wpAny_newObj_type (wpAny_pure (wpAny_pure ⟨_, rfl, wpAny_pure h⟩)) htake))
    | exact wpAny_bind (wpAny_bind (m := Builtin.Tuple.tupleExact _) (wpAny_newObj_type (wpAny_pure ⟨_, rfl, wpAny_pure h⟩) htake))
end
end HT

namespace L2
open PySem PySem.Spec PyProof.Rows

/-! ### the parts of a slice -/
abbrev TO := St → Hp → (Option Int → Hp → Prop) → Prop
/-- a slice's part (left out, or an int) -/
def PO (X : Cx) (e : Option Expr) (t : TO) : Prop :=
  ∀ (pins : List (Addr × Obj)) (s : Shared) (σ : St) (H : Hp) (Q : Option Int → Hp → Prop), Inv X pins σ H s → t σ H Q →
    wpAny (model X.prog X.w) X.A (evalPart e X.env) (fun u s' => ∃ o H', Inv X pins σ H' s' ∧ IsPart u o ∧ Q o H') X.xe s
def tNoPart : TO := fun _ H Q => Q none H
def tPart (t : TE) : TO := fun σ H Q => t σ H fun x H1 => ∃ i, x = .int i ∧ Q (some i) H1

theorem intsAre_of {ns : List Int} : ∀ {us : List Value}, Vals (ns.map V.int) us → IntsAre us ns := by
  induction ns with
  | nil => intro us r; rw [List.map_nil] at r; cases r; exact .nil
  | cons n ns ih =>
    intro us r
    rw [List.map_cons] at r
    cases r with
    | cons r1 r2 =>
      obtain ⟨t, e⟩ := r1
      subst e
      exact .cons n t (ih r2)

section
variable {X : Cx} {e : Expr} {te : TE} {lo hi : Option Expr} {tl th : TO} {pos p2 : Pos}

theorem po_none : PO X none tNoPart := by
  intro pins s σ H Q I h
  rw [evalPart_none]
  exact wpAny_pure ⟨none, H, I, .none, h⟩
theorem po_some (h : PE X e te) : PO X (some e) (tPart te) := by
  intro pins s σ H Q I hw
  rw [evalPart_some]
  refine thn (h pins s σ H _ I hw) fun u s1 ⟨x, H1, I1, r1, q1⟩ => ?_
  obtain ⟨i, rfl, q⟩ := q1
  obtain ⟨t, rfl⟩ := r1
  exact ⟨some i, H1, I1, .int i t, q⟩

/-- what a slice of a value is, by values: the slice object stands at sl -/
def SlR (X : Cx) (r : V → Option Int → Option Int → Hp → VK → Prop) : Prop :=
  ∀ (pins : List (Addr × Obj)) (s : Shared) (σ : St) (H : Hp) (x : V) (v vl vu : Value) (lo hi : Option Int) (sl : Addr) (Q : VK), Inv X pins σ H s → RelV x v → s.heap.IsSliceOf sl vl vu .none → IsPart vl lo → IsPart vu hi → r x lo hi H Q →
    ∃ T id, typeLookup (.type T) "__getitem__" = pure (some (.builtin id)) ∧ s.TypeIs v T ∧ wpAny (model X.prog X.w) X.A (getItem v (.ref sl)) (EP X pins σ Q) X.xe s
theorem SlR.or {r r' : V → Option Int → Option Int → Hp → VK → Prop} (h : SlR X r) (h' : SlR X r') : SlR X (fun x lo hi H Q => r x lo hi H Q ∨ r' x lo hi H Q) := by
  intro pins s σ H x v vl vu lo hi sl Q I rx hs pl pu q
  rcases q with q | q
  · exact h pins s σ H x v vl vu lo hi sl Q I rx hs pl pu q
  · exact h' pins s σ H x v vl vu lo hi sl Q I rx hs pl pu q
def tSl (r : V → Option Int → Option Int → Hp → VK → Prop) (te : TE) (tl th : TO) : TE := fun σ H Q => te σ H fun x H1 => tl σ H1 fun l H2 => th σ H2 fun u H3 => r x l u H3 Q
/-- a[lo:hi], any a -/
theorem pe_slice {r : V → Option Int → Option Int → Hp → VK → Prop} (hr : SlR X r) (he : PE X e te) (hl : PO X lo tl) (hu : PO X hi th) : PE X (.Subscript e (.Slice lo hi none p2) pos) (tSl r te tl th) := by
  intro pins s σ H Q I h
  refine Subscript_ (thn (he pins s σ H _ I h) fun v s1 ⟨x, H1, I1, r1, q1⟩ => ?_)
  refine wpAny_Slice (thn (hl pins s1 σ H1 _ I1 q1) fun vl s2 ⟨l, H2, I2, pl, q2⟩ => thn (hu pins s2 σ H2 _ I2 q2) fun vu s3 ⟨u, H3, I3, pu, q3⟩ => ?_)
  rw [evalPart_none]
  refine wpAny_pure ?_
  have I4 : Inv X pins σ H3 { s3 with heap := s3.heap.push { cls := .type "slice", data := .fields #[vl, vu, .none] } } := I3.kept (t' := s3.toks) fun b ob q => Heap.get?_push_of_some _ q
  obtain ⟨T, id, hT, ht, hg⟩ := hr pins { s3 with heap := s3.heap.push { cls := .type "slice", data := .fields #[vl, vu, .none] } } σ H3 x v vl vu l u s3.heap.objs.size Q I4 r1 (Heap.IsSliceOf.new ..) pl pu q3
  show wpAny (model X.prog X.w) X.A (subscriptTail e (.Slice lo hi none p2) v (.ref s3.heap.objs.size)) (EP X pins σ Q) X.xe { s3 with heap := s3.heap.push { cls := .type "slice", data := .fields #[vl, vu, .none] } }
  exact tail_any (ops := [.ref s3.heap.objs.size, v]) ht hT hg (by with_unfolding_all rfl)

/-- the items of xs[lo:hi] -/
def cutV (xs : List V) (lo hi : Option Int) : List V := (xs.drop (HT.sIx xs.length 0 lo)).take (HT.sIx xs.length xs.length hi - HT.sIx xs.length 0 lo)
theorem cutV_length (xs : List V) (lo hi : Option Int) : (cutV xs lo hi).length ≤ xs.length := by
  unfold cutV
  rw [List.length_take, List.length_drop]
  omega
/-- t[lo:hi], not the whole of it (the whole would be t itself) -/
def rSlT (K : PySem.W.Frag) : V → Option Int → Option Int → Hp → VK → Prop := fun x lo hi H Q => ∃ a xs, x = .ref a ∧ SqT K H a xs ∧
  ¬ (HT.sIx xs.length 0 lo = 0 ∧ HT.sIx xs.length xs.length hi = xs.length) ∧ ∀ p, H p = none → Q (.ref p) (upd H p (.tup (cutV xs lo hi)))
theorem sl_tup : SlR X (rSlT X.K) := by
  intro pins s σ H x v vl vu lo hi sl Q I rx hs pl pu h
  obtain ⟨a, xs, rfl, hx, hw, q⟩ := h
  cases rx
  obtain ⟨its, r, ht, hz⟩ := I.tuple hx
  have hlen : its.toArray.size = xs.length := by rw [List.size_toArray]; exact r.length.symm
  refine ⟨"tuple", _, PyProof.Rows.slot_tuple_getitem.lookup, ht.typeIs, ?_⟩
  refine HT.getItem_tuple_cut ht hs pl pu (by rw [hlen]; exact hw) ?_ (by rw [hlen]; exact hz)
  rw [hlen]
  refine ⟨.ref s.heap.objs.size, _, I.laid (t' := s.toks) (o := .tup (cutV xs lo hi)) (fun b ob q => Heap.get?_push_of_some _ q) (Nat.le_refl _) ?_, rfl, q _ (I.hok.fresh (Nat.le_refl _))⟩
  exact ⟨Nat.le_trans (cutV_length xs lo hi) hz, _, (r.drop (HT.sIx xs.length 0 lo)).take (HT.sIx xs.length xs.length hi - HT.sIx xs.length 0 lo), IsTup.new _ _⟩

/-! ### t < u, t + u -/
/-- t + u, t not empty: u empty gives t itself -/
def rCatT (K : PySem.W.Frag) : R2 := fun x y H Q => ∃ a b xs ys, x = .ref a ∧ y = .ref b ∧ SqT K H a xs ∧ SqT K H b ys ∧ xs ≠ [] ∧ xs.length + ys.length ≤ sizeLine ∧
  (ys = [] → Q (.ref a) H) ∧ (ys ≠ [] → ∀ p, H p = none → Q (.ref p) (upd H p (.tup (xs ++ ys))))
theorem Vals.nil_iff {xs : List V} {us : List Value} (r : Vals xs us) : us = [] ↔ xs = [] := by
  cases r with
  | nil => simp
  | cons _ _ => simp
theorem op_catT : OpR X (binaryOp .Add) (rCatT X.K) := by
  intro pins s σ H x y v u Q I rx ry h
  obtain ⟨a, b, xs, ys, rfl, rfl, ha, hb, hx, hz, q1, q2⟩ := h
  cases rx
  cases ry
  obtain ⟨its, r1, p1, _⟩ := I.tuple ha
  obtain ⟨its2, r2, p2, _⟩ := I.tuple hb
  refine HT.cat_tup p1 p2 (fun z => hx (r1.nil_iff.mp z)) (fun z => ⟨.ref a, H, I, rfl, q1 (r2.nil_iff.mp z)⟩) (fun z => ?_) (by rw [← r1.length, ← r2.length]; exact hz)
  refine ⟨.ref s.heap.objs.size, _, I.laid (t' := s.toks) (o := .tup (xs ++ ys)) (fun b ob q => Heap.get?_push_of_some _ q) (Nat.le_refl _) ?_, rfl, q2 (fun w => z (r2.nil_iff.mpr w)) _ (I.hok.fresh (Nat.le_refl _))⟩
  exact ⟨by rw [List.length_append]; exact hz, _, r1.append r2, IsTup.new _ _⟩
end
end L2

namespace L2
open PySem PySem.Spec PyProof.Rows

/-! ### places -/
/-- the place that an index of any sign means -/
def ixN (n : Nat) (i : Int) : Option Nat := if 0 ≤ i then (if i < n then some i.toNat else none) else if -(n : Int) ≤ i then some (i + n).toNat else none
def atI {α : Type} (xs : List α) (i : Int) : Option α := (ixN xs.length i).bind fun j => xs[j]?
theorem ixN_seq {n : Nat} {i : Int} {j : Nat} (h : ixN n i = some j) : seqIndex? i n = some j ∧ j < n ∧ -(n : Int) ≤ i ∧ i < n := by
  unfold ixN at h
  by_cases h0 : 0 ≤ i
  · rw [if_pos h0] at h
    by_cases h1 : i < n
    · rw [if_pos h1] at h
      have e : i.toNat = j := Option.some.inj h
      exact ⟨by rw [seqIndex_of h0 h1, e], by omega, by omega, h1⟩
    · rw [if_neg h1] at h; cases h
  · rw [if_neg h0] at h
    by_cases h1 : -(n : Int) ≤ i
    · rw [if_pos h1] at h
      have e : (i + n).toNat = j := Option.some.inj h
      exact ⟨by rw [seqIndex_neg (by omega) h1, e], by omega, h1, by omega⟩
    · rw [if_neg h1] at h; cases h
theorem atI_get {α : Type} {xs : List α} {i : Int} {v : α} (h : atI xs i = some v) : ∃ j, seqIndex? i xs.length = some j ∧ xs[j]? = some v ∧ j < xs.length ∧ -(xs.length : Int) ≤ i ∧ i < xs.length := by
  unfold atI at h
  cases e : ixN xs.length i with
  | none => rw [e] at h; cases h
  | some j =>
    rw [e] at h
    obtain ⟨h1, h2, h3, h4⟩ := ixN_seq e
    exact ⟨j, h1, h, h2, h3, h4⟩
theorem atI_nat {α : Type} {xs : List α} {j : Nat} {v : α} (h : xs[j]? = some v) : atI xs (j : Int) = some v := by
  have hj : j < xs.length := (List.getElem?_eq_some_iff.mp h).1
  have e : ixN xs.length (j : Int) = some j := by
    unfold ixN
    rw [if_pos (by omega), if_pos (by omega)]; simp
  unfold atI; rw [e]; exact h

/-! ### what may be subscripted -/
/-- what stands as an index of a plain subscript -/
def PlainIx (b : Expr) : Prop := ∀ o i, subscripted b false o i = operate [o, i] (getItem o i)
/-- a subscript by values -/
def IxR (X : Cx) (r : R2) : Prop :=
  ∀ (value slice : Expr) (pins : List (Addr × Obj)) (s : Shared) (σ : St) (H : Hp) (x y : V) (v u : Value) (Q : VK), Inv X pins σ H s → RelV x v → RelV y u → r x y H Q →
    subscripted slice false v u = operate [v, u] (getItem v u) → wpAny (model X.prog X.w) X.A (subscriptTail value slice v u) (EP X pins σ Q) X.xe s
/-- a call of a builtin's method by values: the receiver, the arguments -/
def MtR (X : Cx) (id : String) (r : V → List V → Hp → VK → Prop) : Prop :=
  ∀ (pins : List (Addr × Obj)) (s : Shared) (σ : St) (H : Hp) (x : V) (xs : List V) (v : Value) (us : List Value) (Q : VK), Inv X pins σ H s → RelV x v → Vals xs us → r x xs H Q →
    wpAny (model X.prog X.w) X.A (call (.builtin id) (v :: us)) (EP X pins σ Q) X.xe s
section
variable {X : Cx} {a b : Expr} {ta tb : TE} {pos : Pos}
theorem IxR.or {r r' : R2} (h : IxR X r) (h' : IxR X r') : IxR X (fun x y H Q => r x y H Q ∨ r' x y H Q) := by
  intro value slice pins s σ H x y v u Q I rx ry q hs
  rcases q with q | q
  · exact h value slice pins s σ H x y v u Q I rx ry q hs
  · exact h' value slice pins s σ H x y v u Q I rx ry q hs
theorem MtR.or {id : String} {r r' : V → List V → Hp → VK → Prop} (h : MtR X id r) (h' : MtR X id r') : MtR X id (fun x xs H Q => r x xs H Q ∨ r' x xs H Q) := by
  intro pins s σ H x xs v us Q I rx rs q
  rcases q with q | q
  · exact h pins s σ H x xs v us Q I rx rs q
  · exact h' pins s σ H x xs v us Q I rx rs q
/-- a[b] -/
theorem pe_ix {r : R2} (hr : IxR X r) (ha : PE X a ta) (hb : PE X b tb) (hs : PlainIx b) : PE X (.Subscript a b pos) (tOp r ta tb) := by
  intro pins s σ H Q I h
  exact Subscript_ (binT ha hb I h fun v u s2 x y H2 I2 rx ry q => hr a b pins s2 σ H2 x y v u Q I2 rx ry q (hs _ _))

def rIxL (K : PySem.W.Frag) : R2 := fun x y H Q => ∃ p xs i v, x = .ref p ∧ y = .int i ∧ SqL K H p xs ∧ atI xs i = some v ∧ Q v H
def rIxT (K : PySem.W.Frag) : R2 := fun x y H Q => ∃ p xs i v, x = .ref p ∧ y = .int i ∧ SqT K H p xs ∧ atI xs i = some v ∧ Q v H
def rIxS : R2 := fun x y H Q => ∃ z i c, x = .str z ∧ y = .int i ∧ z.length ≤ sizeLine ∧ atI z.cps.toList i = some c ∧ Q (.str ⟨#[c]⟩) H
theorem ix_list : IxR X (rIxL X.K) := by
  intro value slice pins s σ H x y v u Q I rx ry h hs
  obtain ⟨p, xs, i, z, rfl, rfl, hq, he, q⟩ := h
  cases rx
  obtain ⟨t, rfl⟩ := ry
  obtain ⟨its, r, pl, hz⟩ := I.list hq
  obtain ⟨j, h1, h2, h3, h4, h5⟩ := atI_get he
  obtain ⟨w, ew, rw'⟩ := r.get h2
  have hl := r.length
  have hn := line63
  have fin : EP X pins σ Q w s := ⟨z, H, I, rw', q⟩
  by_cases h0 : 0 ≤ i
  · have hj : i.toNat = j := by
      rw [seqIndex_of h0 h5] at h1
      exact Option.some.inj h1
    exact item_listR pl.isList h0 (by omega) (by rw [hj]; simpa using ew) fin hs
  · have hj : (i + (its.toArray.size : Int)).toNat = j := by
      rw [seqIndex_neg (by omega) h4] at h1
      rw [List.size_toArray, ← hl]
      exact Option.some.inj h1
    exact subscriptTail_builtinR (x := w) pl.isList.typeIs slot_list_getitem.lookup
      (wpAny_getItem_list_neg (Q := fun r s' => r = w ∧ EP X pins σ Q r s') pl.isList (by omega) (by rw [List.size_toArray] <;> omega) (by omega) (by rw [hj]; simpa using ew) ⟨rfl, fin⟩) hs
theorem ix_tup : IxR X (rIxT X.K) := by
  intro value slice pins s σ H x y v u Q I rx ry h hs
  obtain ⟨p, xs, i, z, rfl, rfl, hq, he, q⟩ := h
  cases rx
  obtain ⟨t, rfl⟩ := ry
  obtain ⟨its, r, pl, hz⟩ := I.tuple hq
  obtain ⟨j, h1, h2, h3, h4, h5⟩ := atI_get he
  obtain ⟨w, ew, rw'⟩ := r.get h2
  have hl := r.length
  have hn := line63
  have fin : EP X pins σ Q w s := ⟨z, H, I, rw', q⟩
  exact subscriptTail_builtinR (x := w) pl.typeIs slot_tuple_getitem.lookup
    (getItem_tuple (j := j) (Q := fun r s' => r = w ∧ EP X pins σ Q r s') pl (by omega) (by omega) (by rw [List.size_toArray, ← hl]; exact h1) (by simpa using ew) ⟨rfl, fin⟩) hs
theorem ix_str : IxR X rIxS := by
  intro value slice pins s σ H x y v u Q I rx ry h hs
  obtain ⟨z, i, c, rfl, rfl, hz, he, q⟩ := h
  obtain ⟨t, rfl⟩ := rx
  obtain ⟨t', rfl⟩ := ry
  obtain ⟨j, h1, h2, h3, h4, h5⟩ := atI_get he
  have hl : z.cps.toList.length = z.length := by simp [Str.length]
  rw [hl] at h1 h4 h5
  have hn := line63
  exact tail_any (typeIs_str s z t) slot_str_getitem.lookup (getItem_str (c := c) (by
    have e1 : decide (i < -(2 ^ 63 : Int)) = false := decide_eq_false (by omega)
    have e2 : decide (i ≥ 2 ^ 63) = false := decide_eq_false (by omega)
    rw [e1, e2, Bool.or_false]) (by rw [h1]; simpa using h2) ⟨.str ⟨#[c]⟩, H, I.tok _, ⟨_, rfl⟩, q⟩) hs

/-! ### xs[i] = v, any sign -/
/-- the list's object behind a store -/
theorem mapSeq_set (its : List Value) (n j : Nat) (u : Value) : Obj.mapSeq (·.setIfInBounds j u) { cls := .type "list", data := .seq its.toArray n } = { cls := .type "list", data := .seq (its.set j u).toArray n } := by
  simp [Obj.mapSeq]
theorem Inv.lst {pins : List (Addr × Obj)} {σ : St} {H : Hp} {s : Shared} {p : Addr} {xs : List V} (I : Inv X pins σ H s) (h : H p = some (.lst xs)) :
    ∃ (its : List Value) (n : Nat), Vals xs its ∧ s.heap.get? p = some { cls := .type "list", data := .seq its.toArray n } ∧ xs.length ≤ sizeLine := by
  obtain ⟨z, its, n, r, e⟩ := I.hok p _ h
  exact ⟨its, n, r, e, z⟩
/-- the list at p is written by an update of its object -/
theorem Inv.lstUpd {pins : List (Addr × Obj)} {σ : St} {H : Hp} {s : Shared} {p : Addr} {xs ys : List V} {its its' : List Value} {n n' : Nat} {f : Obj → Obj} (I : Inv X pins σ H s) (h : H p = some (.lst xs))
    (ho : s.heap.get? p = some { cls := .type "list", data := .seq its.toArray n }) (hf : f { cls := .type "list", data := .seq its.toArray n } = { cls := .type "list", data := .seq its'.toArray n' }) (r : Vals ys its') (hz : ys.length ≤ sizeLine) (t : Nat) :
    Inv X pins σ (upd H p (.lst ys)) { s with heap := s.heap.update p f, toks := t } := by
  have e : (s.heap.update p f).get? p = some { cls := .type "list", data := .seq its'.toArray n' } := by
    rw [Heap.get?_update_self f ho (by rw [hf] <;> rfl), hf]
  refine I.write (x := p) (e := p) (by rw [h]; trivial) (.inl rfl) (fun b u hb q => (Heap.get?_update_other _ _ (Ne.symm hb)).trans q) ⟨_, e⟩ ?_
  exact ⟨hz, its', n', r, e⟩
def rSetL : V → V → V → Hp → (Hp → Prop) → Prop := fun o i v H Q => ∃ p xs k j, o = .ref p ∧ i = .int k ∧ H p = some (.lst xs) ∧ ixN xs.length k = some j ∧ Q (upd H p (.lst (xs.set j v)))
theorem set_list : PSet X rSetL := by
  intro pins s σ H o i v ov iv u Q I ro ri rv h
  obtain ⟨p, xs, k, j, rfl, rfl, hp, hj, q⟩ := h
  cases ro
  obtain ⟨t, rfl⟩ := ri
  obtain ⟨its, n, r, ho, hz⟩ := I.lst hp
  obtain ⟨h1, h2, h3, h4⟩ := ixN_seq hj
  have hl := r.length
  have hn := line63
  have I' : Inv X pins σ (upd H p (.lst (xs.set j v))) { s with heap := s.heap.update p (Obj.mapSeq (·.setIfInBounds j u)) } :=
    I.lstUpd hp ho (mapSeq_set its n j u) (r.set rv j) (by rw [List.length_set]; exact hz) s.toks
  by_cases h0 : 0 ≤ k
  · have hk : k.toNat = j := by
      rw [seqIndex_of h0 h4] at h1
      exact Option.some.inj h1
    exact PySem.W.ki_setAt ho h0 (by omega) (by rw [List.size_toArray, ← hl]; exact h4) (by rw [hk]; exact ⟨_, I', q⟩)
  · have hk : (k + (its.toArray.size : Int)).toNat = j := by
      rw [seqIndex_neg (by omega) h3] at h1
      rw [List.size_toArray, ← hl]
      exact Option.some.inj h1
    exact PySem.W.ki_setBack ho (by omega) (by rw [List.size_toArray, ← hl]; exact h3) (by omega) (by rw [hk]; exact ⟨_, I', q⟩)

/-! ### slices -/
theorem slice_bounds (lo hi : Option Int) (n : Nat) : (sliceBounds lo hi none n).1 = ((HT.sIx n 0 lo : Nat) : Int) ∧ (sliceBounds lo hi none n).2.1 = ((HT.sIx n n hi : Nat) : Int) ∧ (sliceBounds lo hi none n).2.2 = 1 := by
  refine ⟨?_, ?_, rfl⟩
  · cases lo with
    | none => simp [sliceBounds, HT.sIx]
    | some i =>
      simp only [sliceBounds, HT.sIx, Option.getD_none, show (1 : Int) > 0 by decide, if_true]
      by_cases h : i < 0
      · simp only [h, if_true] <;> omega
      · simp only [h, if_false] <;> omega
  · cases hi with
    | none => simp [sliceBounds, HT.sIx]
    | some i =>
      simp only [sliceBounds, HT.sIx, Option.getD_none, show (1 : Int) > 0 by decide, if_true]
      by_cases h : i < 0
      · simp only [h, if_true] <;> omega
      · simp only [h, if_false] <;> omega
theorem slicePick_cut (its : List Value) (lo hi : Option Int) : slicePick its.toArray lo hi none = ((its.drop (HT.sIx its.length 0 lo)).take (HT.sIx its.length its.length hi - HT.sIx its.length 0 lo)).toArray := by
  obtain ⟨h1, h2, h3⟩ := slice_bounds lo hi its.toArray.size
  unfold slicePick
  rw [h1, h2, h3]
  simp only [sliceRange_one, pick_run, List.size_toArray] <;> rfl
/-- xs[lo:hi] of a list: a new list -/
def rSlL (K : PySem.W.Frag) : V → Option Int → Option Int → Hp → VK → Prop := fun x lo hi H Q => ∃ a xs, x = .ref a ∧ SqL K H a xs ∧ ∀ p, H p = none → Q (.ref p) (upd H p (.lst (cutV xs lo hi)))
theorem sl_list : SlR X (rSlL X.K) := by
  intro pins s σ H x v vl vu lo hi sl Q I rx hs pl pu h
  obtain ⟨a, xs, rfl, hx, q⟩ := h
  cases rx
  obtain ⟨its, r, ht, hz⟩ := I.list hx
  have hlen := r.length
  refine ⟨"list", _, slot_list_getitem.lookup, ht.isList.typeIs, ?_⟩
  refine wpAny_getItem_list_slice ht.isList hs pl pu .none (by simp) ?_ (by rw [List.size_toArray] <;> omega)
  rw [slicePick_cut, ← hlen]
  refine ⟨.ref s.heap.objs.size, _, I.laid (t' := s.toks) (o := .lst (cutV xs lo hi)) (fun b ob q => Heap.get?_push_of_some _ q) (Nat.le_refl _) ?_, rfl, q _ (I.hok.fresh (Nat.le_refl _))⟩
  exact ⟨Nat.le_trans (cutV_length xs lo hi) hz, _, 0, (r.drop (HT.sIx xs.length 0 lo)).take (HT.sIx xs.length xs.length hi - HT.sIx xs.length 0 lo), Heap.get?_push_size _ rfl⟩

/-! ### in, not in: flat items -/
def flatV : V → Bool
  | .non => true
  | .bl _ => true
  | .int _ => true
  | .str _ => true
  | _ => false
/-- == of flat values -/
def eqV : V → V → Bool
  | .non, .non => true
  | .bl a, .bl b => a == b
  | .bl a, .int b => (if a then 1 else 0) == b
  | .int a, .bl b => a == (if b then 1 else 0)
  | .int a, .int b => a == b
  | .str a, .str b => a == b
  | _, _ => false
theorem eqAt_V {A : Around} {s : Shared} {y x : V} {u v : Value} (ry : RelV y u) (rx : RelV x v) (fy : flatV y = true) (fx : flatV x = true) : SeqAt.EqAt A s u v (eqV y x) := by
  cases y with
  | non =>
    cases ry
    cases x with
    | non => cases rx; exact SeqAt.EqAt.same _
    | bl b => cases rx; exact SeqAt.EqAt.none_bool b
    | int b => obtain ⟨t, rfl⟩ := rx; exact SeqAt.EqAt.none_int b t
    | str b => obtain ⟨t, rfl⟩ := rx; exact SeqAt.EqAt.none_str b t
    | _ => exact absurd (show false = true from fx) Bool.false_ne_true
  | bl a =>
    cases ry
    cases x with
    | non => cases rx; exact SeqAt.EqAt.bool_none a
    | bl b => cases rx; exact SeqAt.EqAt.bool_bool a b
    | int b => obtain ⟨t, rfl⟩ := rx; exact SeqAt.EqAt.bool_int a b t
    | str b => obtain ⟨t, rfl⟩ := rx; exact SeqAt.EqAt.bool_str a b t
    | _ => exact absurd (show false = true from fx) Bool.false_ne_true
  | int a =>
    obtain ⟨t', rfl⟩ := ry
    cases x with
    | non => cases rx; exact SeqAt.EqAt.int_none a t'
    | bl b => cases rx; exact SeqAt.EqAt.int_bool a t' b
    | int b => obtain ⟨t, rfl⟩ := rx; exact SeqAt.EqAt.int_int a t' b t
    | str b => obtain ⟨t, rfl⟩ := rx; exact SeqAt.EqAt.int_str a t' b t
    | _ => exact absurd (show false = true from fx) Bool.false_ne_true
  | str a =>
    obtain ⟨t', rfl⟩ := ry
    cases x with
    | non => cases rx; exact SeqAt.EqAt.str_none a t'
    | bl b => cases rx; exact SeqAt.EqAt.str_bool a t' b
    | int b => obtain ⟨t, rfl⟩ := rx; exact SeqAt.EqAt.str_int a t' b t
    | str b => obtain ⟨t, rfl⟩ := rx; exact SeqAt.EqAt.str_str a t' b t
    | _ => exact absurd (show false = true from fx) Bool.false_ne_true
  | _ => exact absurd (show false = true from fy) Bool.false_ne_true
/-- the items' answers, read off the values (a value's own answer does not lean on its token) -/
def eqU (x : V) (u : Value) : Bool := match u with
  | .none => eqV .non x
  | .bool b => eqV (.bl b) x
  | .int i _ => eqV (.int i) x
  | .str z _ => eqV (.str z) x
  | _ => false
theorem eqU_of {x y : V} {u : Value} (r : RelV y u) (f : flatV y = true) : eqU x u = eqV y x := by
  cases y with
  | non => cases r; rfl
  | bl b => cases r; rfl
  | int i => obtain ⟨t, rfl⟩ := r; rfl
  | str z => obtain ⟨t, rfl⟩ := r; rfl
  | _ => exact absurd (show false = true from f) Bool.false_ne_true
theorem any_eqU {x : V} : ∀ {xs : List V} {us : List Value}, Vals xs us → xs.all flatV = true → us.any (eqU x) = xs.any fun y => eqV y x
  | _, _, .nil, _ => rfl
  | y :: xs, u :: us, .cons r t, f => by
    rw [List.all_cons, Bool.and_eq_true] at f
    rw [List.any_cons, List.any_cons, eqU_of r f.1, any_eqU t f.2]
theorem mem_eqAt {A : Around} {s : Shared} {x : V} {v : Value} (rx : RelV x v) (fx : flatV x = true) : ∀ {xs : List V} {us : List Value}, Vals xs us → xs.all flatV = true → ∀ u ∈ us, SeqAt.EqAt A s u v (eqU x u)
  | _, _, .nil, _ => fun u hu => by cases hu
  | y :: xs, u :: us, .cons r t, f => fun u' hu => by
    rw [List.all_cons, Bool.and_eq_true] at f
    rcases List.mem_cons.mp hu with rfl | hu
    · rw [eqU_of r f.1]; exact eqAt_V r rx f.1 fx
    · exact mem_eqAt rx fx t f.2 u' hu
def inV (x : V) (xs : List V) : Bool := xs.any fun y => eqV y x
/-- x in a list or tuple of flat items -/
def rIn (K : PySem.W.Frag) (neg : Bool) : R2 := fun x y H Q => ∃ p xs, y = .ref p ∧ (SqL K H p xs ∨ SqT K H p xs) ∧ flatV x = true ∧ xs.all flatV = true ∧ Q (.bl (if neg then !inV x xs else inV x xs)) H
theorem op_notIn_seq : OpR X (compareOp .NotIn) (rIn X.K true) := by
  intro pins s σ H x y v u Q I rx ry h
  obtain ⟨p, xs, rfl, hq, fx, fs, q⟩ := h
  cases ry
  rcases hq with hq | hq
  · obtain ⟨its, r, pl, hz⟩ := I.list hq
    refine SeqAt.notIn_listAt (eqU x) pl.isList (fun w hw => mem_eqAt rx fx r fs w (by simpa using hw)) ⟨.bl _, H, I, rfl, ?_⟩
    rw [show its.toArray.any (eqU x) = its.any (eqU x) by simp, any_eqU r fs]
    exact q
  · obtain ⟨its, r, pl, hz⟩ := I.tuple hq
    refine SeqAt.notIn_tupleAt (eqU x) pl (fun w hw => mem_eqAt rx fx r fs w (by simpa using hw)) ⟨.bl _, H, I, rfl, ?_⟩
    rw [show its.toArray.any (eqU x) = its.any (eqU x) by simp, any_eqU r fs]
    exact q

/-! ### len, list(x), tuple(x) of any list or tuple that is read -/
theorem CallR.or {f : Value} {r r' : List V → Hp → VK → Prop} (h : CallR X f r) (h' : CallR X f r') : CallR X f (fun xs H Q => r xs H Q ∨ r' xs H Q) := by
  intro pins s σ H xs us Q I rs q
  rcases q with q | q
  · exact h pins s σ H xs us Q I rs q
  · exact h' pins s σ H xs us Q I rs q
theorem call_list_of : CallR X (.type "list") (fun xs H Q => ∃ p ys, xs = [.ref p] ∧ (SqL X.K H p ys ∨ SqT X.K H p ys) ∧ ∀ l, H l = none → Q (.ref l) (upd H l (.lst ys))) := by
  intro pins s σ H xs us Q I r h
  obtain ⟨p, ys, rfl, hq, q⟩ := h
  obtain ⟨u, rfl, rx⟩ := vals1 r
  cases rx
  have fin : ∀ (its : List Value), Vals ys its → ys.length ≤ sizeLine → ∀ (h' : Heap) (c' : Nat), (∀ b o', s.heap.get? b = some o' → h'.get? b = some o') →
      h'.get? s.heap.objs.size = some { cls := .type "list", dict := none, data := .seq its.toArray c', slots := #[] } → EP X pins σ Q (.ref s.heap.objs.size) { s with heap := h' } := fun its r' hz h' c' kp e =>
    ⟨.ref s.heap.objs.size, _, I.laid (t' := s.toks) kp (Nat.le_refl _) (show ObjOk X.prog X.w _ h' _ (.lst ys) from ⟨hz, its, c', r', e⟩), rfl, q _ (I.hok.fresh (Nat.le_refl _))⟩
  rcases hq with hq | hq
  · obtain ⟨its, r', pl, hz⟩ := I.list hq
    have hlen := r'.length
    obtain ⟨o, ho, hc, n, hd⟩ := pl.isList
    exact call_list_seq p (.inl rfl) ho hc hd (fun h' c' kp e => fin its r' hz h' c' kp e) (by simp only [List.size_toArray] <;> omega)
  · obtain ⟨its, r', pl, hz⟩ := I.tuple hq
    have hlen := r'.length
    obtain ⟨o, ho, hc, n, hd⟩ := pl
    exact call_list_seq p (.inr rfl) ho hc hd (fun h' c' kp e => fin its r' hz h' c' kp e) (by simp only [List.size_toArray] <;> omega)
theorem call_tuple_of : CallR X (.type "tuple") (fun xs H Q => ∃ p ys, xs = [.ref p] ∧ ((SqL X.K H p ys ∧ ∀ l, H l = none → Q (.ref l) (upd H l (.tup ys))) ∨ (SqT X.K H p ys ∧ Q (.ref p) H))) := by
  intro pins s σ H xs us Q I r h
  obtain ⟨p, ys, rfl, h⟩ := h
  obtain ⟨u, rfl, rx⟩ := vals1 r
  cases rx
  rcases h with ⟨hq, q⟩ | ⟨hq, q⟩
  · obtain ⟨its, r', pl, hz⟩ := I.list hq
    have hlen := r'.length
    refine call_tuple_list pl.isList (fun h' kp => ?_) (by simp only [List.size_toArray] <;> omega)
    have I1 : Inv X pins σ H { s with heap := h' } := I.kept (t' := s.toks) kp
    have I2 : Inv X pins σ (upd H h'.objs.size (.tup ys)) { s with heap := h'.push { cls := .type "tuple", data := .seq its.toArray } } :=
      I1.laid (t' := s.toks) (fun b o e => Heap.get?_push_of_some _ e) (Nat.le_refl _) (show ObjOk X.prog X.w _ _ _ (.tup ys) from ⟨hz, its, r', IsTup.new _ _⟩)
    exact ⟨.ref h'.objs.size, _, I2, rfl, q _ (I1.hok.fresh (Nat.le_refl _))⟩
  · obtain ⟨its, r', pl, hz⟩ := I.tuple hq
    exact call_tuple_same pl ⟨.ref p, H, I, rfl, q⟩

/-! ### the call of a builtin's method: o.m(..) -/
/-- the value is of that builtin type -/
def tyV (K : PySem.W.Frag) (T : String) (x : V) (H : Hp) : Prop := match x with
  | .str _ => T = "str"
  | .int _ => T = "int"
  | .ref p => (T = "list" ∧ ∃ xs, SqL K H p xs) ∨ (T = "tuple" ∧ ∃ o, K.lookup p = some o ∧ o.cls = .type "tuple" ∧ o.dict = none) ∨
      (T = "dict" ∧ ((∃ kvs, H p = some (.dK kvs)) ∨ ∃ kvs, H p = some (.dT kvs))) ∨ (T = "set" ∧ ∃ S n, H p = some (.set S n))
  | _ => False
theorem tyV_is {pins : List (Addr × Obj)} {σ : St} {H : Hp} {s : Shared} {T : String} {x : V} {v : Value} (I : Inv X pins σ H s) (r : RelV x v) (ty : tyV X.K T x H) :
    s.TypeIs v T ∧ ∀ a, v = .ref a → ∃ ob, s.heap.get? a = some ob ∧ ob.dict = none := by
  cases x with
  | str z =>
    obtain ⟨t, rfl⟩ := r
    cases (show T = "str" from ty)
    exact ⟨typeIs_str s z t, fun _ e => nomatch e⟩
  | int i =>
    obtain ⟨t, rfl⟩ := r
    cases (show T = "int" from ty)
    exact ⟨typeIs_int s i t, fun _ e => nomatch e⟩
  | ref p =>
    cases r
    rcases ty with ⟨rfl, xs, hq⟩ | ⟨rfl, o, hk, hc, hd⟩ | ⟨rfl, hk⟩ | ⟨rfl, S, n, hk⟩
    · obtain ⟨its, _, pl, _⟩ := I.list hq
      refine ⟨pl.isList.typeIs, fun a e => ?_⟩
      cases e
      obtain ⟨o, n, e, c, hd, _⟩ := pl
      exact ⟨o, e, hd⟩
    · refine ⟨⟨o, I.kIn p o hk, hc⟩, fun a e => ?_⟩
      cases e
      exact ⟨o, I.kIn _ o hk, hd⟩
    · have z : ∃ o, s.heap.get? p = some o ∧ o.ExactDict := by
        rcases hk with ⟨kvs, hk⟩ | ⟨kvs, hk⟩
        · obtain ⟨_, _, _, _, o, _, _, e, ex, _⟩ := I.hok p _ hk
          exact ⟨o, e, ex⟩
        · obtain ⟨_, _, _, _, o, _, _, e, ex, _⟩ := I.hok p _ hk
          exact ⟨o, e, ex⟩
      obtain ⟨o, e, ex⟩ := z
      refine ⟨⟨o, e, ex.1⟩, fun a e2 => ?_⟩
      cases e2
      exact ⟨o, e, ex.2.1⟩
    · obtain ⟨o, _, _, _, e, ex, _⟩ := I.hok p _ hk
      refine ⟨⟨o, e, ex.1⟩, fun a e2 => ?_⟩
      cases e2
      exact ⟨o, e, ex.2.1⟩
  | _ => exact False.elim ty
def tBM (K : PySem.W.Frag) (T : String) (r : V → List V → Hp → VK → Prop) (to : TE) (t : TA) : TE := fun σ H Q => to σ H fun x H1 => tyV K T x H1 ∧ t σ H1 fun xs H2 => r x xs H2 Q
variable {o e : Expr} {es : List Expr} {to : TE} {t : TA} {name : Str} {apos cpos : Pos} {T id : String} {r : V → List V → Hp → VK → Prop}
theorem pe_bm (pa : PlainAttrs T) (slot : Slot T name id) (hty : typeOf (.builtin id) = pure (.type "method_descriptor")) (hm : MtR X id r) (ho : PE X o to) (ha : PA X (e :: es) t)
    (hbase : attributeBase o name X.env (eval o X.env) = eval o X.env := by rfl)
    (hfew : ((backTo cpos (starEach (e :: es) X.env)).all (fun x => !x.1) && (backToKw cpos (keywordEach [] X.env)).all (fun x => x.1.isSome)
      && decide ((e :: es).length + ([] : List Keyword).length + (if ([] : List Keyword).isEmpty then 0 else 1) < 30)) = true := by rfl)
    (hline : (apos.endLine == cpos.line) = true := by rfl) (hs : starEach (e :: es) X.env = (false, eval e X.env) :: starEach es X.env := by rfl) (hplain : (backTo cpos (starEach es X.env)).any (·.1) = false := by rfl) :
    PE X (.Call (.Attribute o name apos) (e :: es) [] cpos) (tBM X.K T r to t) := by
  intro pins s σ H Q I h
  refine wpAny_Call_method_late hbase hfew hline rfl (thn (ho pins s σ H _ I h) fun v s1 ⟨x, H1, I1, r1, ty, q1⟩ => ?_)
  obtain ⟨h1, h2⟩ := tyV_is I1 r1 ty
  refine ⟨T, id, pa, slot, hty, h1, h2, ?_⟩
  have hA := ha cpos pins s1 σ H1 _ I1 q1
  rw [hs] at hA ⊢
  refine Calls.callWith_builtin (by show (false || (backTo cpos (starEach es X.env)).any (·.1)) = false; rw [hplain] <;> rfl) (Calls.evalArgs_plain ?_)
  exact thn hA fun us s2 ⟨vs, H2, I2, r2, q2⟩ => hm pins s2 σ H2 x vs v us Q I2 r1 r2 q2
/- xs.append(e), list.index on a module's tuple .. are MtR facts of 06m -/
end
end L2

namespace L2
open PySem PySem.Spec PyProof.Rows

def MtM (X : Cx) (id : String) (r : V → List V → Hp → VK → Prop) : Prop :=
  ∀ (pins : List (Addr × Obj)) (s : Shared) (σ : St) (H : Hp) (x : V) (xs : List V) (v : Value) (us : List Value) (Q : VK), Inv X pins σ H s → RelV x v → Vals xs us → r x xs H Q →
    wpAny (model X.prog X.w) X.A (call (.builtin id) (v :: us)) (EP X pins σ Q) X.xe s

/-! ### lists of values -/
theorem Vals.one : ∀ {x : V} {us : List Value}, Vals [x] us → ∃ u, us = [u] ∧ RelV x u
  | _, _, .cons r .nil => ⟨_, rfl, r⟩
theorem Vals.two : ∀ {x y : V} {us : List Value}, Vals [x, y] us → ∃ u v, us = [u, v] ∧ RelV x u ∧ RelV y v
  | _, _, _, .cons r (.cons q .nil) => ⟨_, _, rfl, r, q⟩
theorem Vals.zero : ∀ {us : List Value}, Vals [] us → us = []
  | _, .nil => rfl
theorem Vals.reverse {xs : List V} {us : List Value} (h : Vals xs us) : Vals xs.reverse us.reverse := by
  induction h with
  | nil => exact .nil
  | cons r t ih => rw [List.reverse_cons, List.reverse_cons]; exact Vals.append ih (.cons r .nil)
theorem Vals.rep {xs : List V} {us : List Value} (h : Vals xs us) : ∀ k : Nat, Vals (List.replicate k xs).flatten (List.replicate k us).flatten
  | 0 => .nil
  | k + 1 => by
    rw [List.replicate_succ, List.replicate_succ, List.flatten_cons, List.flatten_cons]
    exact Vals.append h (Vals.rep h k)
theorem foldl_rep (its : List Value) : ∀ (k : Nat) (acc : List Value),
    List.foldl (fun x1 x2 => x1 ++ x2) acc.toArray (List.replicate k its.toArray) = (acc ++ (List.replicate k its).flatten).toArray
  | 0, acc => by simp
  | k + 1, acc => by
    have e : acc.toArray ++ its.toArray = (acc ++ its).toArray := by simp
    have e2 : (acc ++ its) ++ (List.replicate k its).flatten = acc ++ (List.replicate (k + 1) its).flatten := by
      rw [List.replicate_succ, List.flatten_cons, List.append_assoc]
    rw [← e2, ← foldl_rep its k (acc ++ its), ← e, List.replicate_succ, List.foldl_cons]

section
variable {X : Cx} {pins : List (Addr × Obj)} {σ : St} {H : Hp} {s : Shared} {l b : Addr} {xs ys zs : List V}

/-! ### the two steps: a tracked list is rewritten, a new list is laid -/
theorem Inv.lset {its its' : List Value} {n : Nat} {f : Array Value → Array Value} {t' : Nat} (I : Inv X pins σ H s) (hH : H l = some (.lst xs))
    (e : s.heap.get? l = some { cls := .type "list", data := .seq its.toArray n }) (hf : f its.toArray = its'.toArray) (hv : Vals ys its') (hz : ys.length ≤ sizeLine) :
    Inv X pins σ (upd H l (.lst ys)) { s with heap := s.heap.update l (Obj.mapSeq f), toks := t' } := by
  have q := PySem.IsL.update e f
  rw [hf] at q
  refine I.write (x := l) (e := l) (by rw [hH]; exact trivial) (.inl rfl) (fun b' u hb hu => (Heap.get?_update_other s.heap (Obj.mapSeq f) (Ne.symm hb)).trans hu) ⟨_, q⟩ ?_
  exact ⟨hz, its', _, hv, q⟩
theorem Inv.lnew {its : List Value} {t' : Nat} (I : Inv X pins σ H s) (hv : Vals ys its) (hz : ys.length ≤ sizeLine) :
    Inv X pins σ (upd H s.heap.objs.size (.lst ys)) { s with heap := s.heap.push { cls := .type "list", data := .seq its.toArray }, toks := t' } :=
  I.laid (fun _ _ q => Heap.get?_push_of_some _ q) (Nat.le_refl _) ⟨hz, its, 0, hv, Heap.get?_push_size _ rfl⟩
theorem Inv.fresh (I : Inv X pins σ H s) : H s.heap.objs.size = none := I.hok.fresh (Nat.le_refl _)
theorem Inv.lstM (I : Inv X pins σ H s) (hH : H l = some (.lst xs)) : xs.length ≤ sizeLine ∧ ∃ (its : List Value) (n : Nat), Vals xs its ∧ xs.length = its.length ∧ s.heap.get? l = some { cls := .type "list", data := .seq its.toArray n } := by
  obtain ⟨z, its, n, r, e⟩ := I.hok l _ hH
  exact ⟨z, its, n, r, r.length, e⟩

end

section
variable {X : Cx}

/-! ### methods -/
def rAppend : V → List V → Hp → VK → Prop := fun x vs H Q => ∃ l xs y, x = .ref l ∧ vs = [y] ∧ H l = some (.lst xs) ∧ xs.length < sizeLine ∧ Q .non (upd H l (.lst (xs ++ [y])))
theorem mt_append : MtM X "list.append" rAppend := by
  intro pins s σ H x vs v us Q I rx rv h
  obtain ⟨l, xs, y, rfl, rfl, hH, hz, q⟩ := h
  cases rx
  obtain ⟨u, rfl, ru⟩ := rv.one
  obtain ⟨z, its, n, r, hl, e⟩ := I.lstM hH
  refine call_meets F.slot_list_append ⟨_, e, rfl⟩ F.entry_list_append (F.args_list_append_2 _ _) (PySem.list_append l its.toArray n u (by rw [List.size_toArray]; omega)) ⟨e, ?_⟩
  refine ⟨.non, _, I.lset (its' := its ++ [u]) hH e (by simp) (r.append (.cons ru .nil)) ?_, rfl, q⟩
  rw [List.length_append, List.length_singleton]
  omega






/-! ### list + list, list += list, list * int -/
def rCat : R2 := fun x y H Q => ∃ l b xs zs, x = .ref l ∧ y = .ref b ∧ H l = some (.lst xs) ∧ H b = some (.lst zs) ∧ xs.length + zs.length ≤ sizeLine ∧ ∀ p, H p = none → Q (.ref p) (upd H p (.lst (xs ++ zs)))
theorem op_cat : OpR X (binaryOp .Add) rCat := by
  intro pins s σ H x y v u Q I rx ry h
  obtain ⟨l, b, xs, zs, rfl, rfl, hH, hB, hz, q⟩ := h
  cases rx
  cases ry
  obtain ⟨z, its, n, r, hl, e⟩ := I.lstM hH
  obtain ⟨z2, its2, n2, r2, hl2, e2⟩ := I.lstM hB
  refine PySem.P.add_list e e2 ?_ (by rw [List.size_toArray, List.size_toArray]; omega)
  have ea : its.toArray ++ its2.toArray = (its ++ its2).toArray := by simp
  rw [ea]
  exact ⟨.ref _, _, I.lnew (t' := s.toks) (r.append r2) (by rw [List.length_append]; omega), rfl, q _ I.fresh⟩
theorem len_rep {α : Type} (xs : List α) (k : Nat) : (List.replicate k xs).flatten.length = k * xs.length := by
  induction k with
  | zero => simp
  | succ k ih => rw [List.replicate_succ, List.flatten_cons, List.length_append, ih, Nat.succ_mul, Nat.add_comm]

/-! ### del xs[i] -/
end

/-! ### xs[a:b] = ys -/
section
variable {prog : Program} {w : World} {A : Around} {E : Value → Shared → Prop} {s : Shared}
set_option maxRecDepth 100000 in
end

section
variable {X : Cx}
end
end L2

namespace L2
open PySem PySem.Spec PyProof.Rows

/-! ### lists of pairs as tables -/
section
variable {κ : Type} [DecidableEq κ]
def valV (kvs : List (κ × V)) (k : κ) : Option V := (kvs.find? fun kv => decide (kv.1 = k)).map (·.2)
/-- in its place, or at the end -/
def putK (kvs : List (κ × V)) (k : κ) (v : V) : List (κ × V) :=
  if (kvs.any fun kv => decide (kv.1 = k)) = true then kvs.map (fun kv => if kv.1 = k then (kv.1, v) else kv) else kvs ++ [(k, v)]
def dropK (kvs : List (κ × V)) (k : κ) : List (κ × V) := kvs.filter fun kv => decide (kv.1 ≠ k)

theorem valV_pos {p : κ × V} {r : List (κ × V)} {k : κ} (e : p.1 = k) : valV (p :: r) k = some p.2 := by simp [valV, List.find?_cons, e]
theorem valV_neg {p : κ × V} {r : List (κ × V)} {k : κ} (e : ¬ p.1 = k) : valV (p :: r) k = valV r k := by simp [valV, List.find?_cons, e]
theorem valV_any (k : κ) : ∀ kvs : List (κ × V), (kvs.any fun kv => decide (kv.1 = k)) = (valV kvs k).isSome
  | [] => rfl
  | p :: r => by
    rw [List.any_cons]
    by_cases e : p.1 = k
    · simp only [valV_pos e, decide_eq_true e, Bool.true_or, Option.isSome_some]
    · rw [valV_neg e, decide_eq_false e, Bool.false_or]; exact valV_any k r
theorem length_putK (kvs : List (κ × V)) (k : κ) (v : V) : (putK kvs k v).length ≤ kvs.length + 1 := by
  unfold putK
  split
  · rw [List.length_map]; omega
  · rw [List.length_append, List.length_cons, List.length_nil]; omega

theorem RelO.isSome_eq {o : Option V} {u : Option Value} (r : RelO o u) : o.isSome = u.isSome := by
  cases o with
  | none => cases u with
    | none => rfl
    | some _ => exact (show False from r).elim
  | some _ => cases u with
    | none => exact (show False from r).elim
    | some _ => rfl
theorem RelO.getD {o : Option V} {u : Option Value} {d : V} {d' : Value} (r : RelO o u) (rd : RelV d d') : RelV (o.getD d) (u.getD d') := by
  cases o with
  | none => cases u with
    | none => exact rd
    | some _ => exact (show False from r).elim
  | some _ => cases u with
    | none => exact (show False from r).elim
    | some _ => exact r

/-- raw tables of the same keys -/
theorem KV.val {kvs : List (κ × V)} {vs : List (κ × Value)} (r : KV kvs vs) (k : κ) : RelO (valV kvs k) (valueAt vs k) := by
  unfold KV at r
  induction r with
  | nil => exact True.intro
  | @cons p q ps qs h t ih =>
    obtain ⟨h1, h2⟩ := h
    by_cases e : p.1 = k
    · have e' : q.1 = k := h1.symm.trans e
      have b : valueAt (q :: qs) k = some q.2 := by simp [valueAt, List.find?_cons, e']
      rw [valV_pos e, b]; exact h2
    · have e' : ¬ q.1 = k := fun z => e (h1.trans z)
      have b : valueAt (q :: qs) k = valueAt qs k := by simp [valueAt, List.find?_cons, e']
      rw [valV_neg e, b]; exact ih
theorem KV.any {kvs : List (κ × V)} {vs : List (κ × Value)} (r : KV kvs vs) (k : κ) : (kvs.any fun kv => decide (kv.1 = k)) = vs.any fun kv => decide (kv.1 = k) := by
  unfold KV at r
  induction r with
  | nil => rfl
  | cons h t ih => rw [List.any_cons, List.any_cons, ih, h.1]
theorem KV.repl {kvs : List (κ × V)} {vs : List (κ × Value)} (r : KV kvs vs) (k : κ) {y : V} {u : Value} (ry : RelV y u) :
    KV (kvs.map fun kv => if kv.1 = k then (kv.1, y) else kv) (vs.map fun kv => if kv.1 = k then (kv.1, u) else kv) := by
  unfold KV at r ⊢
  induction r with
  | nil => exact .nil
  | @cons p q ps qs h t ih =>
    rw [List.map_cons, List.map_cons]
    refine .cons ?_ ih
    obtain ⟨h1, h2⟩ := h
    by_cases e : p.1 = k
    · rw [if_pos e, if_pos (h1.symm.trans e)]; exact ⟨h1, ry⟩
    · rw [if_neg e, if_neg (fun z => e (h1.trans z))]; exact ⟨h1, h2⟩
theorem KV.put {kvs : List (κ × V)} {vs : List (κ × Value)} (r : KV kvs vs) (k : κ) {y : V} {u : Value} (ry : RelV y u) : KV (putK kvs k y) (stored vs k u) := by
  unfold putK stored
  rw [r.any k]
  by_cases e : (vs.any fun kv => decide (kv.1 = k)) = true
  · rw [if_pos e, if_pos e]; exact r.repl k ry
  · rw [if_neg e, if_neg e]; exact Paired.snoc r ⟨rfl, ry⟩
theorem KV.drop {kvs : List (κ × V)} {vs : List (κ × Value)} (r : KV kvs vs) (k : κ) : KV (dropK kvs k) (without vs k) := by
  unfold KV at r ⊢
  unfold dropK without
  induction r with
  | nil => exact .nil
  | @cons p q ps qs h t ih =>
    obtain ⟨h1, h2⟩ := h
    rw [List.filter_cons, List.filter_cons]
    by_cases e : p.1 = k
    · have a : ¬ decide (p.1 ≠ k) = true := by simp [e]
      have b : ¬ decide (q.1 ≠ k) = true := by simp [h1.symm.trans e]
      rw [if_neg a, if_neg b]; exact ih
    · have e' : ¬ q.1 = k := fun z => e (h1.trans z)
      have a : decide (p.1 ≠ k) = true := by simp [e]
      have b : decide (q.1 ≠ k) = true := by simp [e']
      rw [if_pos a, if_pos b]; exact .cons ⟨h1, h2⟩ ih
theorem KV.keys {kvs : List (κ × V)} {vs : List (κ × Value)} (r : KV kvs vs) : kvs.map (·.1) = vs.map (·.1) := by
  unfold KV at r
  induction r with
  | nil => rfl
  | cons h t ih => rw [List.map_cons, List.map_cons, ih, h.1]
theorem KV.length {kvs : List (κ × V)} {vs : List (κ × Value)} (r : KV kvs vs) : kvs.length = vs.length := Paired.length r
end


/-! ### a tracked dict, its keys ints and texts or tuples of these -/
theorem kV_is {P : Program} {w : World} {k : Key} {u : Value} (r : RelV (kV k) u) : (mixKind P w).is k u = true := by
  cases k with
  | inl i => obtain ⟨t, e⟩ := (show ∃ t, u = Value.int i t from r); subst e; exact mixKind_int P w i t
  | inr x => obtain ⟨t, e⟩ := (show ∃ t, u = Value.str x t from r); subst e; exact mixKind_str P w x t
theorem items_are {P : Program} {w : World} : ∀ {ks : List Key} {us : List Value}, Vals (ks.map kV) us → ItemsAre (mixKind P w) ks us
  | [], _, r => by rw [List.map_nil] at r; cases r; exact .nil
  | k :: ks, _, r => by
    rw [List.map_cons] at r
    cases r with
    | cons h t => exact .cons (kV_is h) (items_are t)

/-- raw entries of a dict with tuple keys -/
abbrev KT (H : Hp) : List (List Key × V) → List (List Key × Addr × Value) → Prop := Paired fun p q => p.1 = q.1 ∧ H q.2.1 = some (.tup (p.1.map kV)) ∧ RelV p.2 q.2.2
theorem KT.val {H : Hp} {kvs : List (List Key × V)} {xs : List (List Key × Addr × Value)} (r : KT H kvs xs) (k : List Key) : RelO (valV kvs k) ((atKey xs k).map (·.2)) := by
  induction r with
  | nil => exact True.intro
  | @cons p q ps qs h t ih =>
    obtain ⟨h1, _, h2⟩ := h
    by_cases e : p.1 = k
    · have e' : q.1 = k := h1.symm.trans e
      have b : atKey (q :: qs) k = some q.2 := by simp [atKey, List.find?_cons, e']
      rw [valV_pos e, b]; exact h2
    · have e' : ¬ q.1 = k := fun z => e (h1.trans z)
      have b : atKey (q :: qs) k = atKey qs k := by simp [atKey, List.find?_cons, e']
      rw [valV_neg e, b]; exact ih
theorem KT.repl {H : Hp} {kvs : List (List Key × V)} {xs : List (List Key × Addr × Value)} (r : KT H kvs xs) (k : List Key) {y : V} {u : Value} (ry : RelV y u) :
    KT H (kvs.map fun kv => if kv.1 = k then (kv.1, y) else kv) (xs.map (putAt k u)) := by
  induction r with
  | nil => exact .nil
  | @cons p q ps qs h t ih =>
    rw [List.map_cons, List.map_cons]
    refine .cons ?_ ih
    obtain ⟨h1, h2, h3⟩ := h
    unfold putAt
    by_cases e : p.1 = k
    · rw [if_pos e, if_pos (h1.symm.trans e)]; exact ⟨h1, h2, ry⟩
    · rw [if_neg e, if_neg (fun z => e (h1.trans z))]; exact ⟨h1, h2, h3⟩
theorem KT.put {H : Hp} {kvs : List (List Key × V)} {xs : List (List Key × Addr × Value)} (r : KT H kvs xs) (k : List Key) {b : Addr} {y : V} {u : Value} (hb : H b = some (.tup (k.map kV))) (ry : RelV y u) :
    KT H (putK kvs k y) (storedH xs k b u) := by
  have e : (kvs.any fun kv => decide (kv.1 = k)) = (atKey xs k).isSome := by
    rw [valV_any, (r.val k).isSome_eq, Option.isSome_map]
  unfold putK storedH
  rw [e]
  by_cases q : (atKey xs k).isSome = true
  · rw [if_pos q, if_pos q]; exact r.repl k ry
  · rw [if_neg q, if_neg q]; exact Paired.snoc r ⟨rfl, hb, ry⟩
theorem KT.keeps {H H' : Hp} {kvs : List (List Key × V)} {xs : List (List Key × Addr × Value)} (r : KT H kvs xs) (ht : ∀ b ys, H b = some (.tup ys) → H' b = some (.tup ys)) : KT H' kvs xs :=
  Paired.mapP r fun _ _ z => ⟨z.1, ht _ _ z.2.1, z.2.2⟩

section
variable {P : Program} {w : World} {H : Hp} {h : Heap} {a : Addr}
theorem rd_of {u : HO} (ok : HOk P w H h) (e : Rd H a u) : ObjOk P w H h a u := e.ok ok
theorem dk_rd {kvs : List (Key × V)} (ok : HOk P w H h) (e : Rd H a (.dK kvs)) : kvs.length ≤ sizeLine ∧ (a == sysModules) = false ∧ ∃ vs, KV kvs vs ∧ h.DictOf (mixKind P w) a vs :=
  show ObjOk P w H h a (.dK kvs) from rd_of ok e
theorem dk_of {kvs : List (Key × V)} (ok : HOk P w H h) (e : H a = some (.dK kvs)) : kvs.length ≤ sizeLine ∧ (a == sysModules) = false ∧ ∃ vs, KV kvs vs ∧ h.DictOf (mixKind P w) a vs := dk_rd ok (.inl e)
/-- a tracked tuple of ints and texts is a key -/
theorem key_of {ks : List Key} (ok : HOk P w H h) (e : H a = some (.tup (ks.map kV))) : (tupleKind (mixKind P w)).is h ks a := by
  obtain ⟨_, its, r, o, h1, h2, n, h3⟩ := (show ObjOk P w H h a (.tup (ks.map kV)) from ok a _ e)
  exact ⟨o, its.toArray, n, h1, h2, h3, by simpa using items_are r⟩
theorem dt_rd {kvs : List (List Key × V)} (ok : HOk P w H h) (e : Rd H a (.dT kvs)) : kvs.length ≤ sizeLine ∧ (a == sysModules) = false ∧
    ∃ xs, KT H kvs xs ∧ h.DictOfH (tupleKind (mixKind P w)) a xs := by
  obtain ⟨z, y, xs, r, o, es, ep, h1, h2, h3, h4, h5⟩ := (show ObjOk P w H h a (.dT kvs) from rd_of ok e)
  refine ⟨z, y, xs, r, o, es, ep, h1, h2, h3, h4, fun x hx => ?_, h5⟩
  have all : ∀ {l : List (List Key × V)} {m : List (List Key × Addr × Value)}, KT H l m → ∀ x ∈ m, (tupleKind (mixKind P w)).is h x.1 x.2.1 := by
    intro l m q
    induction q with
    | nil => intro x hx; exact nomatch hx
    | @cons p q ps qs hq t ih =>
      intro x hx
      rcases List.mem_cons.mp hx with e | hx
      · subst e
        exact key_of ok (by rw [← hq.1]; exact hq.2.1)
      · exact ih x hx
  exact all r x hx
theorem dt_of {kvs : List (List Key × V)} (ok : HOk P w H h) (e : H a = some (.dT kvs)) : kvs.length ≤ sizeLine ∧ (a == sysModules) = false ∧
    ∃ xs, KT H kvs xs ∧ h.DictOfH (tupleKind (mixKind P w)) a xs := dt_rd ok (.inl e)
end

/-- what the dict at a holds at the key y -/
def DGet (H : Hp) (a : Addr) (y : V) (r : Option V) : Prop :=
  (∃ kvs k, Rd H a (.dK kvs) ∧ y = kV k ∧ r = valV kvs k) ∨ ∃ kvs k b, Rd H a (.dT kvs) ∧ y = .ref b ∧ H b = some (.tup (k.map kV)) ∧ r = valV kvs k
/-- the heap behind a[y] = v -/
def DPut (H : Hp) (a : Addr) (y v : V) (H' : Hp) : Prop :=
  (∃ kvs k, H a = some (.dK kvs) ∧ y = kV k ∧ kvs.length < sizeLine ∧ H' = upd H a (.dK (putK kvs k v))) ∨
  ∃ kvs k b, H a = some (.dT kvs) ∧ y = .ref b ∧ H b = some (.tup (k.map kV)) ∧ kvs.length < sizeLine ∧ H' = upd H a (.dT (putK kvs k v))
theorem DGet.k {H : Hp} {a : Addr} {kvs : List (Key × V)} {k : Key} (e : H a = some (.dK kvs)) : DGet H a (kV k) (valV kvs k) := .inl ⟨kvs, k, .inl e, rfl, rfl⟩
theorem DGet.t {H : Hp} {a b : Addr} {kvs : List (List Key × V)} {k : List Key} (e : H a = some (.dT kvs)) (eb : H b = some (.tup (k.map kV))) : DGet H a (.ref b) (valV kvs k) := .inr ⟨kvs, k, b, .inl e, rfl, eb, rfl⟩
theorem DPut.k {H : Hp} {a : Addr} {kvs : List (Key × V)} {k : Key} {v : V} (e : H a = some (.dK kvs)) (hl : kvs.length < sizeLine) : DPut H a (kV k) v (upd H a (.dK (putK kvs k v))) := .inl ⟨kvs, k, e, rfl, hl, rfl⟩
theorem DPut.t {H : Hp} {a b : Addr} {kvs : List (List Key × V)} {k : List Key} {v : V} (e : H a = some (.dT kvs)) (eb : H b = some (.tup (k.map kV))) (hl : kvs.length < sizeLine) :
    DPut H a (.ref b) v (upd H a (.dT (putK kvs k v))) := .inr ⟨kvs, k, b, e, rfl, eb, hl, rfl⟩


section
variable {X : Cx} {pins : List (Addr × Obj)} {σ : St} {H : Hp} {s : Shared} {a : Addr} {y v : V} {u r : Value} {o : Option V} {A : Around} {E : Value → Shared → Prop}

theorem Inv.big (I : Inv X pins σ H s) : sysModules < s.heap.objs.size := by
  have h : mainGlobals < s.heap.objs.size := (I.mod.glob.keeps I.bk).lt
  exact Nat.lt_trans (by decide) h

/-- d[y], there -/
theorem d_getItem {Q : Value → Shared → Prop} (hu : A.units + 1 < cLine) (I : Inv X pins σ H s) (g : DGet H a y (some v)) (ry : RelV y u) (h : ∀ w' s', Inv X pins σ H s' → RelV v w' → Q w' s') :
    wpAny (model X.prog X.w) A (getItem (.ref a) u) Q E s := by
  rcases g with ⟨kvs, k, e, ey, l⟩ | ⟨kvs, k, b, e, ey, eb, l⟩
  · subst ey
    obtain ⟨z, hd, vs, rel, dd⟩ := dk_rd I.hok e
    obtain ⟨w', hw, rw'⟩ := RelO.some_of (v := v) (o := valueAt vs k) (by rw [l]; exact rel.val k)
    exact wpAny_getItem_of (kV_is ry) dd.mapOf hw (h w' _ (I.tok _) rw')
  · subst ey
    cases (show u = Value.ref b from ry)
    obtain ⟨z, hd, xs, rel, dd⟩ := dt_rd I.hok e
    obtain ⟨w', hw, rw'⟩ := RelO.some_of (v := v) (o := (atKey xs k).map (·.2)) (by rw [l]; exact rel.val k)
    obtain ⟨p, hp, hp2⟩ := Option.map_eq_some_iff.mp hw
    refine wpAny_getItem_heap (tupleKind_room_in1 hu) (key_of I.hok eb) dd hp ?_
    rw [hp2]
    exact h w' _ (I.tok _) rw'
/-- a dict's object is replaced -/
theorem d_write {h' : Heap} {t' : Nat} {ob : HO} (I : Inv X pins σ H s) (mu : Mut (H a)) (hs : Heap.SameBut a s.heap h') (he : ∃ q, h'.get? a = some q) (new : ObjOk X.prog X.w (upd H a ob) h' a ob) :
    Inv X pins σ (upd H a ob) { s with heap := h', toks := t' } :=
  I.write (x := a) (e := a) mu (.inl rfl) (fun b q hb z => (hs.2 b hb).trans z) he new
theorem dk_new {P : Program} {w : World} {H' : Hp} {h' : Heap} {kvs : List (Key × V)} {vs : List (Key × Value)} (z : kvs.length ≤ sizeLine) (hd : (a == sysModules) = false) (rel : KV kvs vs) (dd : h'.DictOf (mixKind P w) a vs) :
    ObjOk P w H' h' a (.dK kvs) := ⟨z, hd, vs, rel, dd⟩
/-- d[y] = v -/
theorem d_setItem {H' : Hp} {Q : Unit → Shared → Prop} (hu : A.units + 1 < cLine) (I : Inv X pins σ H s) (g : DPut H a y v H') (ry : RelV y u) (rv : RelV v r) (h : ∀ s', Inv X pins σ H' s' → Q () s') :
    wpAny (model X.prog X.w) A (setItem (.ref a) u r) Q E s := by
  rcases g with ⟨kvs, k, e, ey, l, eH⟩ | ⟨kvs, k, b, e, ey, eb, l, eH⟩
  · subst ey eH
    obtain ⟨z, hd, vs, rel, dd⟩ := dk_of I.hok e
    have hz : vs.length ≤ sizeLine := by rw [← rel.length]; exact z
    have hl : (putK kvs k v).length ≤ sizeLine := by have := length_putK kvs k v; omega
    refine wpAny_setItem_pairs (hsz := hz) (kV_is ry) dd fun h' dd' hs => h _ ?_
    have he : ∃ q, h'.get? a = some q := let ⟨q, _, _, hq, _⟩ := dd'; ⟨q, hq⟩
    exact d_write I (by rw [e]; exact True.intro) hs he (dk_new hl hd (rel.put k rv) dd')
  · subst ey eH
    cases (show u = Value.ref b from ry)
    obtain ⟨z, hd, xs, rel, dd⟩ := dt_of I.hok e
    have hz : xs.length ≤ sizeLine := by rw [← Paired.length rel]; exact z
    have hl : (putK kvs k v).length ≤ sizeLine := by have := length_putK kvs k v; omega
    refine wpAny_setItem_heap (hsz := hz) (tupleKind_room_in1 hu) (key_of I.hok eb) dd fun h' dd' hs => h _ ?_
    obtain ⟨q, es, ep, hq, h2, h3, h4, _, h5⟩ := dd'
    refine d_write I (by rw [e]; exact True.intro) hs ⟨q, hq⟩ ⟨hl, hd, _, (rel.put k eb rv).keeps fun c ys ec => ?_, q, es, ep, hq, h2, h3, h4, h5⟩
    rw [upd_ne (ne_of ec e (fun z => nomatch z))]
    exact ec
end

section
variable {X : Cx} {pins : List (Addr × Obj)} {σ : St} {H : Hp} {s : Shared} {a : Addr} {kvs : List (Key × V)} {k : Key} {u : Value} {A : Around} {E : Value → Shared → Prop}
/-- len(d) -/
theorem d_len {Q : Value → Shared → Prop} (I : Inv X pins σ H s) (e : Rd H a (.dK kvs)) (h : ∀ t s', Inv X pins σ H s' → Q (.int kvs.length t) s') : wpAny (model X.prog X.w) A (call (.builtin "len") [.ref a]) Q E s := by
  obtain ⟨z, hd, vs, rel, dd⟩ := dk_rd I.hok e
  refine call_len_dict hd dd (by rw [← rel.length]; rw [sizeLine_eq] at z; omega) ?_
  rw [← rel.length]
  exact h _ _ (I.tok _)
end


/-! ### readings and rules -/
/-- the element of a subscription, not a slice -/
def NoSl (i : Expr) : Prop := ∀ ov iv, subscripted i false ov iv = operate [ov, iv] (getItem ov iv)
theorem subD_of {prog : Program} {w : World} {A : Around} {E : Value → Shared → Prop} {s : Shared} {env : Env} {value slice : Expr} {pos : Pos} {T id : String} {Q : Value → Shared → Prop}
    (hl : typeLookup (.type T) "__getitem__" = pure (some (.builtin id))) (hs : NoSl slice)
    (h : wpAny (model prog w) A (eval value env) (fun o s₁ => wpAny (model prog w) A (eval slice env) (fun i s₂ => s₂.TypeIs o T ∧ wpAny (model prog w) A (getItem o i) Q E s₂) E s₁) E s) :
    wpAny (model prog w) A (eval (.Subscript value slice pos) env) Q E s := by
  refine Subscript_ (wpAny_mono h (fun o s₁ h₁ => wpAny_mono h₁ (fun i s₂ h₂ => ?_) fun _ _ x => x) fun _ _ x => x)
  obtain ⟨hT, h₂⟩ := h₂
  unfold subscriptTail
  refine wpAny_bind ?_
  rw [getitemInPython_of_ne hT.not_modules]
  refine wpAny_bind (wpAny_specialOf hT hl ?_)
  have fin : wpAny (model prog w) A (subscripted slice false o i) (fun r s₃ => wpAny (model prog w) A (letTemporaryGo value o r >>= fun _ => pure r) Q E s₃) E s₂ := by
    rw [hs o i]
    exact wpAny_operating (wpAny_mono h₂ (fun r s₃ h₃ => wpAny_bind (wpAny_letTemporaryGo (wpAny_pure h₃))) fun _ _ x => x)
  first
    | exact wpAny_pure (wpAny_bind fin)
    | exact wpAny_bind (wpAny_pure (wpAny_bind fin))
    | exact wpAny_bind fin

theorem dict_typeIs {X : Cx} {pins : List (Addr × Obj)} {σ : St} {H : Hp} {s : Shared} {a : Addr} {y : V} {o : Option V} (I : Inv X pins σ H s) (g : DGet H a y o) : s.TypeIs (.ref a) "dict" := by
  rcases g with ⟨kvs, k, e, _, _⟩ | ⟨kvs, k, b, e, _, _, _⟩
  · obtain ⟨_, _, vs, _, dd⟩ := dk_rd I.hok e
    exact dd.typeIs
  · obtain ⟨_, _, xs, _, dd⟩ := dt_rd I.hok e
    exact dd.typeIs

/-- d[y] -/
def tDGet (td ty : TE) : TE := fun σ H Q => td σ H fun x H1 => ty σ H1 fun y H2 => ∃ a v, x = .ref a ∧ DGet H2 a y (some v) ∧ Q v H2
/-- d[y] = v -/
def sDPut (td ty tv : TE) : TS := fun D σ H => tv σ H fun v H1 => td σ H1 fun x H2 => ty σ H2 fun y H3 => ∃ a H4, x = .ref a ∧ DPut H3 a y v H4 ∧ D.nx σ H4

section
variable {X : Cx} {o i e value : Expr} {pos pos' tpos : Pos} {td ty tv : TE}
theorem pe_dget (hu : X.A.units + 1 < cLine) (ho : PE X o td) (hi : PE X i ty) (hs : NoSl i) : PE X (.Subscript o i pos) (tDGet td ty) := by
  intro pins s σ H Q I h
  refine subD_of PySem.F.slot_dict_getitem.lookup hs (thn (ho pins s σ H _ I h) fun u s1 ⟨x, H1, I1, rx, q1⟩ => thn (hi pins s1 σ H1 _ I1 q1) fun iv s2 ⟨y, H2, I2, ry, a, v, ex, g, q2⟩ => ?_)
  subst ex
  obtain rfl : u = Value.ref a := rx
  exact ⟨dict_typeIs I2 g, d_getItem hu I2 g ry fun w' s3 I3 rw' => ⟨v, H2, I3, rw', q2⟩⟩
theorem ps_dput (hu : X.A.units + 1 < cLine) (ho : PE X o td) (hi : PE X i ty) (hv : PE X value tv) (hs : swapsWith value (some (.Subscript o i pos')) pos.line X.env = pure false) :
    PS X (.Assign [.Subscript o i pos'] value pos) (sDPut td ty tv) := by
  intro pins s σ H D I h
  refine wpAny_Assign_Subscript (thn (hv pins s σ H _ I h) fun r s1 ⟨v, H1, I1, rv, q1⟩ => thn (ho pins s1 σ H1 _ I1 q1) fun u s2 ⟨x, H2, I2, rx, q2⟩ => thn (hi pins s2 σ H2 _ I2 q2) fun iv s3 ⟨y, H3, I3, ry, a, H4, ex, g, q3⟩ => ?_) hs
  subst ex
  obtain rfl : u = Value.ref a := rx
  exact d_setItem hu I3 g ry rv fun s4 I4 => ⟨σ, H4, I4, q3⟩
end


/-! ### displays -/
theorem dk_empty {P : Program} {w : World} {H : Hp} (h : Heap) (hb : sysModules < h.objs.size) : ObjOk P w H (h.push { cls := .type "dict", data := .dict #[] }) h.objs.size (.dK []) :=
  ⟨Nat.zero_le _, beq_eq_false_iff_ne.mpr (Ne.symm (Nat.ne_of_lt hb)), [], .nil, Heap.DictOf.new h⟩
theorem dt_empty {P : Program} {w : World} {H : Hp} (h : Heap) (hb : sysModules < h.objs.size) : ObjOk P w H (h.push { cls := .type "dict", data := .dict #[] }) h.objs.size (.dT []) :=
  ⟨Nat.zero_le _, beq_eq_false_iff_ne.mpr (Ne.symm (Nat.ne_of_lt hb)), [], .nil, _, #[], 0, Heap.get?_push_size _ rfl, ⟨rfl, rfl, rfl⟩, rfl, rfl, List.nodup_nil⟩
def tDNewT : TE := fun _ H Q => ∀ p, H p = none → Q (.ref p) (upd H p (.dT []))
section
variable {X : Cx} {pos : Pos}
theorem pe_dnewT : PE X (.Dict [] [] pos) tDNewT := fun pins s σ H Q I h =>
  wpAny_Dict_empty ⟨.ref s.heap.objs.size, _, I.laid (a := s.heap.objs.size) (o := .dT []) (t' := s.toks) (fun _ _ q => Heap.get?_push_of_some _ q) (Nat.le_refl _) (dt_empty s.heap I.big), rfl, h _ (I.hok.fresh (Nat.le_refl _))⟩
end




/-! ### methods -/
/-- a method call o.m(e) of a built-in, with one argument: what must be seen of the text -/
structure M1 (X : Cx) (o : Expr) (m : Str) (apos : Pos) (e : Expr) (cpos : Pos) : Prop where
  base : attributeBase o m X.env (eval o X.env) = eval o X.env
  few : ((backTo cpos (starEach [e] X.env)).all (fun x => !x.1) && (backToKw cpos (keywordEach [] X.env)).all (fun x => x.1.isSome)
    && decide (([e] : List Expr).length + ([] : List Keyword).length + (if ([] : List Keyword).isEmpty then 0 else 1) < 30)) = true
  line : (apos.endLine == cpos.line) = true
  trees : backTo cpos (starEach [e] X.env) = [(false, eval e X.env)]
structure M2 (X : Cx) (o : Expr) (m : Str) (apos : Pos) (e f : Expr) (cpos : Pos) : Prop where
  base : attributeBase o m X.env (eval o X.env) = eval o X.env
  few : ((backTo cpos (starEach [e, f] X.env)).all (fun x => !x.1) && (backToKw cpos (keywordEach [] X.env)).all (fun x => x.1.isSome)
    && decide (([e, f] : List Expr).length + ([] : List Keyword).length + (if ([] : List Keyword).isEmpty then 0 else 1) < 30)) = true
  line : (apos.endLine == cpos.line) = true
  trees : backTo cpos (starEach [e, f] X.env) = [(false, eval e X.env), (false, eval f X.env)]


section
variable {X : Cx} {pins : List (Addr × Obj)} {σ : St} {H : Hp} {s : Shared} {a : Addr} {y d : V} {u r : Value} {o : Option V} {A : Around} {E : Value → Shared → Prop}
end

section
variable {X : Cx} {o e f : Expr} {apos cpos : Pos} {td ty tx : TE}
end

/-! ### dict(d): a copy -/
section
variable {X : Cx} {pins : List (Addr × Obj)} {σ : St} {H : Hp} {s : Shared} {a : Addr} {kvs : List (Key × V)} {A : Around} {E : Value → Shared → Prop}
end


section
variable {X : Cx} {pins : List (Addr × Obj)} {σ : St} {H : Hp} {s : Shared} {a : Addr} {y : V} {u : Value} {A : Around} {E : Value → Shared → Prop}
end
end L2

namespace Att
open PySem PySem.W PySem.Calls PyProof.Rows

/-! ### the script -/
theorem ints_of_wellAll {P : Params} {h : Heap} : ∀ (ns : List Int) (vs : List Value), WellAll P h vs (ns.map WData.int) → IntsAre vs ns := by
  intro ns
  induction ns with
  | nil =>
    intro vs w
    rw [List.map_nil] at w
    cases w
    exact .nil
  | cons n ns ih =>
    intro vs w
    rw [List.map_cons] at w
    cases w with
    | cons a b =>
      cases a
      exact .cons _ _ (ih _ b)

theorem script_of {l : OpenLaw} {n : Nat} (hn : l.most = some n) {P : Params} {h : Heap} {args : List WData} {vals : List Value}
    (hpre : l.row.toRowW.claim.pre args = true) (hwl : WellAll P h vals args) :
    ∃ a vs ns, vals = [Value.ref a] ∧ args = [WData.list (ns.map WData.int)] ∧ h.get? a = some { cls := .type "list", data := .seq vs.toArray } ∧ IntsAre vs ns ∧ ns.length ≤ n := by
  have hsh : WShape.hasAll [] args [.list .int] = true := (pre_splitW hpre).1
  have hc : l.pre.holds [] { args := args } = true := (pre_splitW hpre).2
  obtain ⟨d, r, rfl, h1, h2⟩ := hasAllW_cons hsh
  obtain rfl := hasAllW_nil h2
  obtain ⟨xs, rfl, h3⟩ := hasW_list h1
  obtain ⟨ns, rfl⟩ := items_int h3
  have hlen : ns.length ≤ n := by
    unfold OpenLaw.pre at hc
    have h4 : (WTm.not (.lt (.lit (.int (n : Int))) (.len (.arg 0)))).holds [] { args := [.list (ns.map .int)] } = true := by
      have h4 := (holds_andW hc).1
      rw [hn] at h4
      exact h4
    have h5 := condW_of h4 (w_not (w_lt w_lit (w_len_list (w_arg rfl))))
    rw [List.length_map] at h5
    refine Nat.le_of_not_lt fun q => ?_
    have q' : (n : Int) < ((ns.length : Nat) : Int) := by omega
    first
      | (rw [decide_eq_true q'] at h5; exact absurd h5 (by decide))
      | (simp at h5; omega)
  cases hwl with
  | cons w1 w2 =>
    cases w2
    cases w1 with
    | list ho hall => exact ⟨_, _, ns, rfl, rfl, ho, ints_of_wellAll ns _ hall, hlen⟩

theorem post_true (l : OpenLaw) (args : List WData) : l.row.toRowW.claim.post args (.bool true) args = true :=
  postW_of (r := l.row.toRowW) (X := (true == true))
    (show WShape.has [] (.bool true) .bool = true by first | rfl | decide | simp [WShape.has, WShape.arms, WShape.armsAll])
    (show (WTm.eq .res (.lit (.bool true))).value [] { args := args, res := some (.bool true), after := args } = some (.bool (true == true)) from w_eq_bool (w_res rfl) w_lit) rfl

/-! ### the attachment: holds_open's last premise (the goal 'hc' behind k_head) from a wpAny of the law's body -/

/-- the same from a codeAny of the CALL (for a layer whose function contracts speak of calls) -/
theorem attach_call {l : OpenLaw} {n : Nat} {q : Program} {loose : List Str} {XP : (Str → Option Value) → Heap → Prop} {YP : World → Heap → Prop} {d : DefRec}
    (hn : l.most = some n) (hdf : d.params.defaults = [])
    (call : ∀ (w : World) (s₀ s₁ : Shared) (mg mb : Str → Option Value) (fa : Addr) (o : Obj) (pm cd doc : Value) (a : Addr) (vs : List Value) (ns : List Int),
      Ground q loose [] XP w s₀ mg mb s₁.heap → YP w s₁.heap →
      s₁.heap.get? fa = some o → o.data = .func (docDef d.name d.params d.body d.scope pm cd doc) → s₁.heap.CodeRec cd d.name → mg d.name = some (.ref fa) →
      s₁.heap.get? a = some { cls := .type "list", data := .seq vs.toArray } → IntsAre vs ns → ns.length ≤ n → s₁.gens = #[] →
      codeAny (model l.prog w) callerA (.call (.ref fa) ⟨[.ref a], []⟩) (fun r s' => r = .ok (.ret (.bool true)) ∧ OldK s₁.heap s'.heap ∧ s'.os = s₁.os ∧ AllBare s'.gens) s₁) :
    WalkO q loose XP YP l.row.toRowW d [] (fun f vs => PySem.call f vs) := by
  intro w s₀ s₁ mg mb G Y fa o pm cd doc dV kV ho hd hcd hD hmg hg args vals as hpre hlay hrd hwl hlo
  obtain rfl : dV = .none := Dflts.none hD hdf
  obtain rfl : kV = .none := Dflts.noKw hD
  obtain ⟨a, vs, ns, rfl, rfl, hobj, hints, hlen⟩ := script_of hn hpre hwl
  refine enter_call (codeAny_mono (call w s₀ s₁ mg mb fa o pm cd doc a vs ns G Y ho (fd_plain hd) hcd hmg hobj hints hlen hg) fun r s' hq => ?_)
  obtain ⟨rfl, h2, h3, h4⟩ := hq
  exact ⟨.inl ⟨.bool true, .bool true, [], rfl, fun _ => rfl, .bool true, post_true l _, fun _ => ⟨List.Pairwise.nil, fun _ hm => (nomatch hm)⟩⟩, h2, h3, h4⟩


/-! ### rules over ANY heap (no ledger) from facts about the written part K: the library's own take a ledger (News) for what they write -/
section
variable {prog : Program} {w : World} {A : Around} {E : Value → Shared → Prop} {s : Shared} {K : Frag}





/-! the whole heap as the ledger: makes every rule that writes through a ledger a rule over any heap -/
def ledger (h : Heap) (L d : Addr) : List (Addr × Obj) := (List.range h.objs.size).filterMap fun a => if a = L ∨ a = d then none else (h.get? a).map fun o => (a, o)

end
end Att

namespace L2
open PySem PySem.Spec PyProof.Rows

theorem vals_ints : ∀ {vs : List Value} {ns : List Int}, IntsAre vs ns → Vals (ns.map V.int) vs
  | _, _, .nil => .nil
  | _, _, .cons n t h => .cons ⟨t, rfl⟩ (vals_ints h)

/-- nothing is tracked but the script, known to the object (or it is an object of the module) -/
def Only (H : Hp) : Prop := ∀ b, H b = none ∨ ∃ o xs, H b = some (.frz o (.lst xs))

/-- THE HEAD: the law's promise, at the heap behind the top. F, the promise of the law's def, may use that base is part of the heap (so K.In base, base.Ns mainGlobals mg stand in Mod) -/
theorem law_call {P : Program} {w : World} {K : PySem.W.Frag} {mg mb : Str → Option Value} {CX : CXT} {k : Nat} {fa a : Addr} {fd : FuncData} {x : Str} {sp : Sp} {s₁ : Shared} {vs : List Value} {ns : List Int}
    (KX : K.In s₁.heap) (hns : s₁.heap.Ns mainGlobals mg) (hb : s₁.heap.Ns builtinsNs mb) (hbb : ∀ x : Str, x ≠ "__name__" → mb x = bootBuiltins x) (hlim : s₁.heap.NoLimit) (hg : s₁.gens = #[])
    (ha : s₁.heap.get? a = some { cls := .type "list", data := .seq vs.toArray }) (hi : IntsAre vs ns) (hl : ns.length ≤ sizeLine) (hr : Room k callerA)
    (F : ∀ base : Heap, K.In base → base.Ns mainGlobals mg → FnOk P w K mg base CX k fa fd [x] sp) (hbind : ∀ (s : Shared) (u : Value), BindsTo s fd ⟨[u], []⟩ [(x, u)])
    (hsp : ∀ H : Hp, Only H → SqL K H a (ns.map V.int) → sp [.ref a] H (fun v _ => v = .bl true) fun _ _ _ => False)
    (hCX : ∀ H e s', CX [] H s₁ (fun _ _ _ => False) e s' → False) :
    codeAny (model P w) callerA (.call (.ref fa) ⟨[.ref a], []⟩) (fun r s' => r = .ok (.ret (.bool true)) ∧ OldK s₁.heap s'.heap ∧ s'.os = s₁.os ∧ AllBare s'.gens) s₁ := by
  have rv := vals_ints hi
  have lenV := hi.length
  -- from an abstract heap in which nothing but the script may be tracked
  have core : ∀ H : Hp, Only H → SqL K H a (ns.map V.int) → HOk P w H s₁.heap → (∀ b, H b ≠ none → b = a) → (H a ≠ none → K.lookup a = none) →
      codeAny (model P w) callerA (.call (.ref fa) ⟨[.ref a], []⟩) (fun r s' => r = .ok (.ret (.bool true)) ∧ OldK s₁.heap s'.heap ∧ s'.os = s₁.os ∧ AllBare s'.gens) s₁ := by
    intro H hO hS hok hA hK
    have base_of : ∀ {b : Addr} {o : Obj}, s₁.heap.get? b = some o → H b = none → (hidT s₁.heap H).get? b = some o := fun e n => hidT_get e n
    have noA : ∀ {b : Addr} {o : Obj} {es : Array DictEntry} {ep : Nat}, s₁.heap.get? b = some o → o.data = .dict es ep → H b = none := fun {b o es ep} e d => by
      cases q : H b with
      | none => rfl
      | some u =>
        have e' : b = a := hA b (by rw [q]; simp)
        subst e'
        rw [ha] at e; cases e
        have d' : Data.seq vs.toArray _ = Data.dict es ep := d
        cases d'
    have nsK : ∀ {b : Addr} {m : Str → Option Value}, s₁.heap.Ns b m → (hidT s₁.heap H).Ns b m := fun {b m} ⟨o, es, ep, e, d, r⟩ => ⟨o, es, ep, base_of e (noA e d), d, r⟩
    have hKb : K.In (hidT s₁.heap H) := fun b o e => base_of (KX b o e) (by
      cases q : H b with
      | none => rfl
      | some u =>
        have e' : b = a := hA b (by rw [q]; simp)
        subst e'
        rw [hK (by rw [q]; simp)] at e; cases e)
    have hM : Mod K mg (hidT s₁.heap H) := ⟨hKb, nsK hns, ⟨mb, nsK hb, hbb⟩, let ⟨mc, h1, h2⟩ := hlim; ⟨mc, nsK h1, h2⟩⟩
    have e0 : Env0 P w K mg (hidT s₁.heap H) callerA [] s₁ H := ⟨rfl, hM, fun b o e => of_hidT e, Nat.le_of_eq (hidT_size _ _), trivial, fun b hb => absurd (show b ∈ ([] : List Addr) from hb) (by simp), hok, .of_eq hg⟩
    refine codeAny_mono ((F _ hKb (nsK hns)).run callerA [] s₁ H ⟨[.ref a], []⟩ [.ref a] [.ref a] _ _ hr e0 (hbind s₁ (.ref a)) (.cons rfl .nil) (hsp H hO hS)) fun r s' h => ?_
    cases r with
    | error e => exact (hCX H e s' h).elim
    | ok fl =>
      cases fl with
      | next => exact False.elim h
      | brk => exact False.elim h
      | cont => exact False.elim h
      | ret u =>
        obtain ⟨v, H', os, bare, un, hok', r', q⟩ := h
        have q' : v = .bl true := q
        subst q'
        obtain rfl : u = Value.bool true := r'
        refine ⟨rfl, OldK.of_keep fun b o e => ?_, os, bare⟩
        cases q : H b with
        | none => exact un.keep b o e q (by intro z; exact absurd (show b ∈ ([] : List Addr) from z) (by simp)) (by simp)
        | some u =>
          rcases hO b with z | ⟨ob, xs, z⟩
          · rw [q] at z; cases z
          · have z2 := un.frzs b ob _ z
            obtain ⟨e1, _⟩ := hok b _ z
            obtain ⟨e2, _⟩ := hok' b _ z2
            rw [e] at e1; cases e1
            exact e2
  cases hk : K.lookup a with
  | some o =>
    -- the script is one of the module's own objects
    have e := KX a o hk
    rw [ha] at e
    cases e
    refine core (fun _ => none) (fun _ => .inl rfl) (.inr ⟨_, vs.toArray, _, hk, rfl, rfl, rfl, by rw [List.size_toArray, lenV]; exact hl, by simpa using rv⟩) (fun b u z => by have z' : (none : Option HO) = some u := z; cases z') (fun b z => absurd rfl z) fun z => absurd rfl z
  | none =>
    refine core (fun b => if b = a then some (.frz { cls := .type "list", data := .seq vs.toArray } (.lst (ns.map V.int))) else none) (fun b => ?_) (.inl (.inr ⟨{ cls := .type "list", data := .seq vs.toArray }, if_pos rfl⟩)) (fun b u z => ?_) (fun b z => ?_) fun _ => hk
    · by_cases hb : b = a
      · exact .inr ⟨_, _, if_pos hb⟩
      · exact .inl (if_neg hb)
    · by_cases hb : b = a
      · have z' := (if_pos hb).symm.trans z
        cases z'
        subst hb
        exact ⟨ha, by rw [List.length_map]; exact hl, vs, _, rv, ha⟩
      · have z' := (if_neg hb).symm.trans z
        cases z'
    · by_cases hb : b = a
      · exact hb
      · exact absurd (if_neg hb) z
end L2

namespace L2
open PySem PySem.Spec PyProof.Rows


/-- the goal that k_head leaves (case hc), from the law's promise. F gives the function object fd (K's own) once, then the promise over every base -/
theorem walk_of {l : PySem.W.OpenLaw} {n k : Nat} {q : Program} {loose : List Str} {XP : (Str → Option Value) → Heap → Prop} {YP : World → Heap → Prop} {d : DefRec} {K : Params → PySem.W.Frag} {CX : World → CXT} {sp : World → Sp} {x : Str}
    (hn : l.most = some n) (hn2 : n ≤ sizeLine) (hdf : d.params.defaults = []) (hr : Room k callerA)
    (hY : ∀ (w : World) (h : Heap), YP w h → (K w.params).In h)
    (F : ∀ (w : World) (mg : Str → Option Value) (fa : Addr) (h : Heap), (K w.params).In h → h.Ns mainGlobals mg → mg d.name = some (.ref fa) →
      ∃ fd : FuncData, (∀ (s : Shared) (u : Value), BindsTo s fd ⟨[u], []⟩ [(x, u)]) ∧
        ∀ base : Heap, (K w.params).In base → base.Ns mainGlobals mg → FnOk l.prog w (K w.params) mg base (CX w) k fa fd [x] (sp w))
    (hsp : ∀ (w : World) (H : Hp) (a : Addr) (ns : List Int), ns.length ≤ n → Only H → SqL (K w.params) H a (ns.map V.int) → sp w [.ref a] H (fun v _ => v = .bl true) fun _ _ _ => False)
    (hCX : ∀ (w : World) (H : Hp) (s : Shared) (e : Value) (s' : Shared), CX w [] H s (fun _ _ _ => False) e s' → False) :
    PySem.W.WalkO q loose XP YP l.row.toRowW d [] (fun f vs => PySem.call f vs) := by
  refine Att.attach_call hn hdf fun w s₀ s₁ mg mb fa o pm cd doc a vs ns G Y ho hd hcd hmg hobj hints hlen hg => ?_
  have KX := hY w _ Y
  obtain ⟨fd, hb, hF⟩ := F w mg fa _ KX G.T.g hmg
  exact law_call KX G.T.g G.T.b G.T.builtins G.T.nolimit hg hobj hints (Nat.le_trans hlen hn2) hr hF hb (fun H hO hS => hsp w H a ns hlen hO hS) fun H e s' => hCX w H s₁ e s'
end L2
namespace L2
open PySem PySem.Spec PyProof.Rows

/-! ### the text by places -/
def defArgs (s : Stmt) : Arguments := match s with
  | .FunctionDef _ a _ _ _ _ _ _ _ _ => a
  | _ => { posonlyargs := [], args := [], vararg := none, kwonlyargs := [], kw_defaults := [], kwarg := none, defaults := [] }
def defBody (s : Stmt) : List Stmt := match s with
  | .FunctionDef _ _ b _ _ _ _ _ _ _ => b
  | _ => []
def defScope (s : Stmt) : Scope := match s with
  | .FunctionDef _ _ _ _ _ _ sc _ _ _ => sc
  | _ => { kind := .function, names := [], isGenerator := false, isCoroutine := false }

/-! ### no exception leaves a def -/
abbrev CX0 : CXT := fun _ _ _ _ _ _ => False
abbrev E0 : XK := fun _ _ _ => False
theorem pass0 {X : Cx} : Passes CX0 X E0 := fun _ _ _ _ _ _ _ h => h.elim

/-! ### a def (or method) of the text as it stands behind the top -/
structure Fun (K : PySem.W.Frag) (x qual : Str) (st : Stmt) (f : Addr) (fd : FuncData) : Prop where
  ex : ∃ (oc : Value) (od : Option Addr) (kV doc pm : Value) (an : Option Addr) (cdv ct : Value) (osl : Array (Option Value)),
    fd = PySem.W.fnOf x qual (defArgs st) (defBody st) (defScope st) .none kV doc pm an cdv ct ∧ K.lookup f = some ⟨oc, od, .func fd, osl⟩ ∧ PySem.W.codeIn K cdv qual = true
  kp : PySem.W.keepIn K (.ref f) = true
section
variable {P : Program} {w : World} {K : PySem.W.Frag} {mg : Str → Option Value} {base : Heap}
/-- THE RULE for a def: its body as a term of rules, and the reading of that term -/
theorem Fun.ok {x qual : Str} {st : Stmt} {f : Addr} {fd : FuncData} {N ps : List Str} {k : Nat} {sp : Sp} (F : Fun K x qual st f fd) (S : FnScope N ps (defScope st)) (len : ∀ vs H Q E, sp vs H Q E → vs.length = ps.length)
    (hbody : ∀ (cdv : Value) (A : Around) (outer : List Env) (s : Shared) (H : Hp) (vs : List V) (Q : VK) (E : XK), Room k (A.deeper (envOfC qual (defScope st) s.heap.objs.size f cdv)) → sp vs H Q E →
      ∃ t, PSs (cxOf CX0 P w K mg base N qual (defScope st) f cdv A outer s H E).nox (defBody st) t ∧ t { nx := fun _ H' => Q .non H', rt := Q } (start N vs) H) : FnOk P w K mg base CX0 (k + 1) f fd ps sp := by
  obtain ⟨oc, od, kV, doc, pm, an, cdv, ct, osl, rfl, lk, hcd⟩ := F.ex
  refine fn_of lk hcd S len fun A outer s H vs Q E hr hsp => ?_
  obtain ⟨t, h, q⟩ := hbody cdv A outer s H vs Q E hr hsp
  exact ⟨t, h.nox, q⟩
/-- how its arguments bind (no defaults): h is «fun _ _ _ _ _ _ us hl => match us, hl with | [_, _], _ => rfl», one _ a parameter -/
theorem Fun.binds {x qual : Str} {st : Stmt} {f : Addr} {fd : FuncData} {ps : List Str} (F : Fun K x qual st f fd)
    (h : ∀ (kV doc pm : Value) (an : Option Addr) (cdv ct : Value) (us : List Value), us.length = ps.length → bindArgs (PySem.W.fnOf x qual (defArgs st) (defBody st) (defScope st) .none kV doc pm an cdv ct) ⟨us, []⟩ = pure (ps.zip us)) : Binds K fd ps [] := by
  obtain ⟨oc, od, kV, doc, pm, an, cdv, ct, osl, rfl, lk, hcd⟩ := F.ex
  exact .all (h kV doc pm an cdv ct)
theorem fun_mk {x qual : Str} {st : Stmt} {f : Addr} {oc : Value} {od an : Option Addr} {osl : Array (Option Value)} {kV doc pm cdv ct : Value} (l : K.lookup f = some ⟨oc, od, .func (PySem.W.fnOf x qual (defArgs st) (defBody st) (defScope st) .none kV doc pm an cdv ct), osl⟩)
    (c : PySem.W.codeIn K cdv qual = true) (k : PySem.W.keepIn K (.ref f) = true) : Fun K x qual st f (PySem.W.fnOf x qual (defArgs st) (defBody st) (defScope st) .none kV doc pm an cdv ct) := ⟨⟨oc, od, kV, doc, pm, an, cdv, ct, osl, rfl, l, c⟩, k⟩
end

/-! ### expressions in short: the name that stands in the i-th slot -/
section
variable {X : Cx}
theorem pv (i : Nat) {x : Str} {pos : Pos} (hN : X.N[i]? = some x := by rfl) (hv : Vis X.env.scope x := by first | exact Or.inl rfl | exact Or.inr (Or.inl rfl) | exact Or.inr (Or.inr rfl)) (hd : (x == ("__debug__" : Str)) = false := by decide)
    (hcd : (x == ("__classdict__" : Str)) = false := by decide) : PE X (.Name x pos) (tVar i) := pe_var hN hv hd hcd
end

/-! ### tests -/
theorem iteF {A B : Prop} (h : B) : if false = true then A else B := by
  rw [if_neg Bool.false_ne_true]
  exact h
theorem iteT {A B : Prop} (h : A) : if true = true then A else B := by
  rw [if_pos rfl]
  exact h

/-! ### heaps -/
/-- all that was tracked is as it was -/
def Same (H H' : Hp) : Prop := ∀ b o, H b = some o → H' b = some o
theorem Same.refl (H : Hp) : Same H H := fun _ _ h => h
theorem Same.trans {H H1 H2 : Hp} (a : Same H H1) (b : Same H1 H2) : Same H H2 := fun c o h => b c o (a c o h)
theorem Same.free {H H' : Hp} (e : Same H H') {l : Addr} (h : H' l = Option.none) : H l = Option.none := by
  cases q : H l with
  | none => rfl
  | some o =>
    rw [e l o q] at h
    cases h
theorem Same.seq {K : PySem.W.Frag} {H H' : Hp} {a : Addr} {xs : List V} (e : Same H H') (h : SqL K H a xs) : SqL K H' a xs := by
  rcases h with (h | ⟨o, h⟩) | h
  · exact .inl (.inl (e _ _ h))
  · exact .inl (.inr ⟨o, e _ _ h⟩)
  · exact .inr h

section
variable {X : Cx}
/-- len of a dict -/
theorem call_lenD : CallR X (.builtin "len") (fun xs H Q => ∃ a kvs, xs = [V.ref a] ∧ H a = some (.dK kvs) ∧ Q (.int kvs.length) H) := by
  intro pins s σ H xs us Q I r h
  obtain ⟨a, kvs, rfl, ha, q⟩ := h
  obtain ⟨u, rfl, ru⟩ := vals1 r
  cases ru
  exact d_len I (.inl ha) fun t s' I' => ⟨.int kvs.length, H, I', ⟨t, rfl⟩, q⟩
end
section
variable {κ : Type} [DecidableEq κ]
end
end L2

namespace L2
open PySem PySem.Spec PyProof.Rows

/-! ### comprehensions: the block's context -/
def Cx.blk (X : Cx) (N : List Str) (scope : Scope) (cl : List (Str × Addr)) (C : Addr) (s : Shared) (H : Hp) (fp : List Addr) : Cx :=
  { X with N := N, s₀ := s, H₀ := H, env := compEnvC scope cl C X.env, outer := X.stack, ex := fp, fn := fun _ => false, pn := [], xe := fun _ _ => False }

theorem closure_run {env : Env} (f : Str × NameKind → List (Str × Addr) → Sem (ForInStep (List (Str × Addr))))
    (hf : ∀ n k r, f (n, k) r = if k == NameKind.free then (do let c ← cellOf env n; pure (.yield ((n, c) :: r))) else pure (.yield r)) :
    ∀ (names : List (Str × NameKind)) (cs : List (Str × Addr)), (∀ y ∈ names, y.2 = .free → ∃ c, env.cells.lookup y.1 = some c) → (∀ n c, cs.lookup n = some c → env.cells.lookup n = some c) →
      ∃ cl, (forIn names cs f : Sem (List (Str × Addr))) = pure cl ∧ (∀ n c, cl.lookup n = some c → env.cells.lookup n = some c) ∧
        ∀ n, ((∃ c, cs.lookup n = some c) ∨ ∃ y ∈ names, y.1 = n ∧ y.2 = .free) → ∃ c, cl.lookup n = some c
  | [], cs, _, h2 => ⟨cs, rfl, h2, fun n h => h.elim id fun ⟨_, hy, _⟩ => nomatch hy⟩
  | (n, k) :: r, cs, h1, h2 => by
    rw [List.forIn_cons, hf]
    by_cases hk : k = .free
    · subst hk
      obtain ⟨c, hc⟩ := h1 (n, .free) List.mem_cons_self rfl
      have hc' : env.cells.lookup n = some c := hc
      have e : cellOf env n = pure c := by unfold cellOf; rw [hc']
      obtain ⟨cl, q1, q2, q3⟩ := closure_run f hf r ((n, c) :: cs) (fun y hy => h1 y (List.mem_cons_of_mem _ hy)) (fun m d hm => by
        rw [List.lookup_cons] at hm
        by_cases hb : (m == n) = true
        · rw [hb] at hm
          have := eq_of_beq hb
          subst this
          cases hm
          exact hc'
        · rw [Bool.not_eq_true] at hb
          rw [hb] at hm
          exact h2 m d hm)
      refine ⟨cl, ?_, q2, fun m hm => q3 m ?_⟩
      · rw [if_pos (show (NameKind.free == NameKind.free) = true from rfl), e]
        simp only [pure_bind]
        exact q1
      · by_cases hb : m = n
        · subst hb
          exact .inl ⟨c, by simp [List.lookup_cons]⟩
        · rcases hm with ⟨d, hm⟩ | ⟨y, hy, e1, e2⟩
          · refine .inl ⟨d, ?_⟩
            rw [List.lookup_cons, beq_eq_false_iff_ne.mpr hb]
            exact hm
          · rcases List.mem_cons.mp hy with rfl | hy
            · exact absurd e1.symm hb
            · exact .inr ⟨y, hy, e1, e2⟩
    · have hb : (k == NameKind.free) = false := beq_eq_false_iff_ne.mpr hk
      obtain ⟨cl, q1, q2, q3⟩ := closure_run f hf r cs (fun y hy => h1 y (List.mem_cons_of_mem _ hy)) h2
      refine ⟨cl, ?_, q2, fun m hm => q3 m ?_⟩
      · rw [hb]
        simp only [Bool.false_eq_true, if_false, pure_bind]
        exact q1
      · rcases hm with hm | ⟨y, hy, e1, e2⟩
        · exact .inl hm
        · rcases List.mem_cons.mp hy with rfl | hy
          · exact absurd e2 hk
          · exact .inr ⟨y, hy, e1, e2⟩

theorem closure_of {env : Env} {scope : Scope} (h1 : ∀ y ∈ scope.names, y.2 = .free → ∃ c, env.cells.lookup y.1 = some c) :
    ∃ cl, closureFor scope env = pure cl ∧ (∀ n c, cl.lookup n = some c → env.cells.lookup n = some c) ∧ ∀ y ∈ scope.names, y.2 = .free → ∃ c, cl.lookup y.1 = some c := by
  unfold closureFor
  obtain ⟨cl, q1, q2, q3⟩ := closure_run (env := env) (fun x r => if (x.2 == NameKind.free) = true then (do let c ← cellOf env x.1; pure (.yield ((x.1, c) :: r))) else pure (.yield r)) (fun n k r => rfl) scope.names [] h1 (fun n c h => by simp at h)
  have q := congrArg (fun t : Sem (List (Str × Addr)) => t >>= fun cs => pure cs) q1
  simp only [pure_bind] at q
  exact ⟨cl, q, q2, fun y hy e => q3 y.1 (.inr ⟨y, hy, rfl, e⟩)⟩

theorem relabel_look {scope : Scope} {env : Env} {x : Str} : ∀ {names : List (Str × NameKind)},
    (names.map fun (n, k) => if (k == NameKind.free && env.scope.kind == .function && env.kindOf n == some .cell) then (n, NameKind.cell) else (n, k)).lookup x =
      (names.lookup x).map fun k => if (k == NameKind.free && env.scope.kind == .function && env.kindOf x == some .cell) then NameKind.cell else k
  | [] => rfl
  | (n, k) :: r => by
    have ih := @relabel_look scope env x r
    show List.lookup x ((if (k == NameKind.free && env.scope.kind == .function && env.kindOf n == some .cell) = true then (n, NameKind.cell) else (n, k)) :: _) = _
    cases hx : x == n with
    | true =>
      have e := eq_of_beq hx
      subst e
      by_cases hc : (k == NameKind.free && env.scope.kind == .function && env.kindOf x == some .cell) = true
      · rw [if_pos hc]; simp only [List.lookup_cons, beq_self_eq_true, Option.map_some, hc, if_true]
      · rw [if_neg hc]; simp only [List.lookup_cons, beq_self_eq_true, Option.map_some, hc, if_false]; rfl
    | false =>
      by_cases hc : (k == NameKind.free && env.scope.kind == .function && env.kindOf n == some .cell) = true
      · rw [if_pos hc]; simp only [List.lookup_cons, hx]; exact ih
      · rw [if_neg hc]; simp only [List.lookup_cons, hx]; exact ih

/-- the outer values of the free names -/
def frees (js : List Nat) (σ : St) : St := js.map fun j => (σ[j]?).join

section
variable {X : Cx} {pins : List (Addr × Obj)} {σ : St} {H : Hp} {s s1 : Shared} {NT NF : List Str} {js : List Nat} {scope : Scope} {cl : List (Str × Addr)} {fp : List Addr}
structure BlkOk (X : Cx) (NT NF : List Str) (js : List Nat) (scope : Scope) : Prop where
  kind : scope.kind = .function
  names : ∀ y ∈ scope.names, y.2 = .local → scope.names.lookup y.1 = some .local
  cell : ∀ y ∈ scope.names, y.2 ≠ .cell
  free : ∀ y ∈ scope.names, y.2 = .free → X.env.scope.names.lookup y.1 = some .cell ∨ X.env.scope.names.lookup y.1 = some .free
  len : js.length = NF.length
  fr : ∀ (k : Nat) (j : Nat) (x : Str), js[k]? = some j → NF[k]? = some x → X.N[j]? = some x ∧ scope.names.lookup x = some .free
  tg : ∀ x ∈ NT, scope.names.lookup x = some .local
  nd : (NT ++ NF).Nodup

theorem Inv.blk (I : Inv X pins σ H s) (B : BlkOk X NT NF js scope) (q2 : ∀ n c, cl.lookup n = some c → X.env.cells.lookup n = some c) (q3 : ∀ y ∈ scope.names, y.2 = .free → ∃ c, cl.lookup y.1 = some c)
    (hf : ∀ b ∈ fp, FpOk X pins H b) (hlt : ∀ b ∈ fp, b < s.heap.objs.size) {m : Str → Option Value} (hns : s1.heap.Ns s.heap.objs.size m) (keep : ∀ b o, s.heap.get? b = some o → s1.heap.get? b = some o)
    (hos : s1.os = s.os) (hg : AllBare s1.gens) :
    Inv (X.blk (NT ++ NF) scope cl s.heap.objs.size s H fp) [] (List.replicate NT.length none ++ frees js σ) H s1 := by
  have look : ∀ x, (X.blk (NT ++ NF) scope cl s.heap.objs.size s H fp).env.kindOf x = (scope.names.lookup x).map fun k => if (k == NameKind.free && X.env.scope.kind == .function && X.env.kindOf x == some .cell) then NameKind.cell else k := fun x => relabel_look (scope := scope)
  have isfree : ∀ x, ((X.blk (NT ++ NF) scope cl s.heap.objs.size s H fp).env.kindOf x = some .cell ∨ (X.blk (NT ++ NF) scope cl s.heap.objs.size s H fp).env.kindOf x = some .free) → scope.names.lookup x = some .free := fun x h => by
    rw [look] at h
    cases e : scope.names.lookup x with
    | none => rw [e] at h; simp at h
    | some k =>
      rw [e] at h
      by_cases hk : k = .free
      · rw [hk]
      · have hb : (k == NameKind.free) = false := beq_eq_false_iff_ne.mpr hk
        simp only [Option.map_some, hb, Bool.false_and, Bool.false_eq_true, if_false, Option.some.injEq] at h
        rcases h with h | h
        · subst h
          exact absurd rfl (B.cell _ (PySem.mem_of_lookup e))
        · exact absurd h hk
  have ltC : ∀ c x, X.env.cells.lookup x = some c → c < s.heap.objs.size := fun c x e => by
    obtain ⟨v, q⟩ := I.cell x c e
    exact q.lt
  refine ⟨⟨I.ok.mod, B.kind, I.ok.glob, I.ok.blt, Nat.le_refl _, fun x y c h1 h2 => I.ok.inj x y c (q2 x c h1) (q2 y c h2), fun x hx => ?_, fun x c h _ => (nomatch (show false = true from h)), I.ok.hd, I.ok.frames, .inl rfl, fun b hb => ⟨Nat.ne_of_lt (hlt b hb), fun x c e => (hf b hb).2.2.2.2.1 x c (q2 x c e)⟩, I.bs, Nat.le_trans I.ok.bsz I.sz, fun b o e hb => ?_, fun b hb hb2 => ?_, I.stack, I.stkFree⟩,
    hos, hg, Un.kept keep, ⟨m, hns, fun i x v h1 h2 h3 => ?_⟩, fun x c e => ?_, I.hok.fresh (Nat.le_refl _), fun x c e => I.freeC x c (q2 x c e), fun p hp => (nomatch (show p ∈ ([] : List (Addr × Obj)) from hp)), I.hok.kept keep, ?_⟩
  · exact q3 _ (PySem.mem_of_lookup (isfree x hx)) rfl
  · rcases (hf b hb).2.2.2.1 with z | z
    · exact I.ok.noex b o e z
    · exact absurd (Nat.lt_of_lt_of_le (Heap.lt_size e) (Nat.le_trans I.ok.bsz z)) (Nat.lt_irrefl _)
  · obtain ⟨_, f1, f2, _⟩ := hf b hb
    rcases List.mem_cons.mp (I.stkSub b hb2) with z | z
    · exact f1 z
    · exact f2 z
  · have h1' : (NT ++ NF)[i]? = some x := h1
    by_cases hi : i < NT.length
    · rw [List.getElem?_append_left (by simpa using hi), List.getElem?_replicate] at h2
      split at h2 <;> cases h2
    · have hi' : NT.length ≤ i := by omega
      rw [List.getElem?_append_right (by simpa using hi')] at h2
      rw [List.getElem?_append_right hi'] at h1'
      simp only [List.length_replicate] at h2
      unfold frees at h2
      rw [List.getElem?_map] at h2
      cases ej : js[i - NT.length]? with
      | none => rw [ej] at h2; cases h2
      | some j =>
        rw [ej] at h2
        have h2' : (σ[j]?).join = some v := by simpa using h2
        obtain ⟨g1, g2⟩ := B.fr _ j x ej h1'
        have hj : σ[j]? = some (some v) := by
          cases e : σ[j]? with
          | none => rw [e] at h2'; cases h2'
          | some o => rw [e] at h2'; simp at h2'; rw [h2']
        have hk := B.free _ (PySem.mem_of_lookup g2) rfl
        have hk' : X.env.scope.names.lookup x = some .cell ∨ X.env.scope.names.lookup x = some .free := hk
        obtain ⟨m0, hn0, hl0⟩ := I.loc
        obtain ⟨u, r, l⟩ := hl0 j x v g1 hj (.inr hk')
        refine ⟨u, r, .inr ⟨?_, ?_⟩⟩
        · rw [look, g2]
          by_cases hc : (NameKind.free == NameKind.free && X.env.scope.kind == .function && X.env.kindOf x == some .cell) = true
          · left
            simp only [Option.map_some, hc, if_true]
          · right
            simp only [Option.map_some, hc, if_false]
            rfl
        · rcases l with ⟨k0, _⟩ | ⟨_, c, e, z⟩
          · have k0' : X.env.scope.names.lookup x = some .local := k0
            rcases hk' with z | z <;> rw [z] at k0' <;> cases k0'
          · obtain ⟨c', hc'⟩ := q3 _ (PySem.mem_of_lookup g2) rfl
            have hc2 : cl.lookup x = some c' := hc'
            have e2 := q2 x c' hc2
            rw [e] at e2
            cases e2
            obtain ⟨o, ho, hd⟩ := z
            exact ⟨c, hc2, o, keep c o ho, hd⟩
  · obtain ⟨v, o, ho, hd⟩ := I.cell x c (q2 x c e)
    exact ⟨v, o, keep c o ho, hd⟩
  · show (List.replicate NT.length none ++ frees js σ).length = (NT ++ NF).length
    unfold frees
    simp [B.len]

/-- behind the block -/
theorem Inv.unblk {N : List Str} {σ' : St} {H' : Hp} {s' : Shared} {pins' : List (Addr × Obj)} (I : Inv X pins σ H s) (hf : ∀ b ∈ fp, FpOk X pins H b) (J : Inv (X.blk N scope cl s.heap.objs.size s H fp) pins' σ' H' s') : Inv X pins σ H' s' :=
  I.call' J.os J.base J.hok J.bare fun b hb => ⟨(hf b hb).2.2.2.1, (hf b hb).2.1, (hf b hb).2.2.2.2.1, (hf b hb).2.2.2.2.2⟩
end
end L2

namespace L2
open PySem PySem.Spec PyProof.Rows

theorem set_mid {α : Type} (a : List α) (x y : α) (b : List α) {n : Nat} (h : a.length = n) : (a ++ x :: b).set n y = a ++ y :: b := by
  subst h
  rw [List.set_append_right _ _ (Nat.le_refl _), Nat.sub_self]
  rfl
/-! ### a comprehension's targets -/
inductive Tgt where
  | one | many (n : Nat)
def tgV (K : PySem.W.Frag) : Tgt → V → Hp → List V → Prop
  | .one, x, _, vs => vs = [x]
  | .many n, x, H, vs => ∃ a, x = .ref a ∧ SqT K H a vs ∧ vs.length = n
def isNm (e : Expr) (x : Str) : Prop := ∃ pos, e = .Name x pos
def TgOk (tg : Expr) (NT : List Str) : Tgt → Prop
  | .one => ∃ x, isNm tg x ∧ NT = [x]
  | .many n => ∃ es k pos, tg = .Tuple es k pos ∧ Paired isNm es NT ∧ NT.length = n
theorem each_names {env : Env} : ∀ {es : List Expr} {NT : List Str}, Paired isNm es NT → assignEach es env = es.map fun e => (false, assign e env)
  | _, _, .nil => rfl
  | _, _, .cons ⟨pos, e⟩ t => by
    subst e
    show (false, assign _ env) :: assignEach _ env = _
    rw [each_names t]
    rfl
section
variable {X : Cx} {pins : List (Addr × Obj)} {H : Hp} {E : Value → Shared → Prop}
theorem names_set {NT : List Str} {es : List Expr} (p : Paired isNm es NT) : ∀ {pre NF : List Str} {σp fs : St} {s : Shared} {vs : List V} {us : List Value} {Q : Unit → Shared → Prop},
    X.N = pre ++ NT ++ NF → X.N.Nodup → (∀ x ∈ NT, X.env.scope.names.lookup x = some .local) → σp.length = pre.length → vs.length = NT.length →
    Inv X pins (σp ++ (List.replicate NT.length none ++ fs)) H s → Vals vs us → (∀ s', Inv X pins (σp ++ (vs.map some ++ fs)) H s' → Q () s') →
    wpAny (model X.prog X.w) X.A (assignInOrder (es.map fun e => assign e X.env) us) Q E s := by
  induction p with
  | nil =>
    intro pre NF σp fs s vs us Q hN nd hl hp hv I r q
    cases vs with
    | cons _ _ => simp at hv
    | nil =>
      cases r
      exact assignInOrder_nil (q s I)
  | @cons e x es NT he t ih =>
    intro pre NF σp fs s vs us Q hN nd hl hp hv I r q
    cases vs with
    | nil => simp at hv
    | cons v vs =>
      cases r with
      | cons r rr =>
        obtain ⟨pos, rfl⟩ := he
        have hx := hl x List.mem_cons_self
        have hi : X.N[pre.length]? = some x := by
          rw [hN, List.append_assoc, List.getElem?_append_right (Nat.le_refl _)]
          simp
        refine assignInOrder_cons (wpAny_assign_Name (store_ok I nd hi (.inl hx) r (fun s' I' => ?_) (.inr hx)))
        have e1 : (σp ++ (List.replicate (x :: NT).length none ++ fs)).set pre.length (some v) = (σp ++ [some v]) ++ (List.replicate NT.length none ++ fs) := by
          exact (set_mid σp none (some v) (List.replicate NT.length none ++ fs) hp).trans (List.append_cons σp (some v) (List.replicate NT.length none ++ fs))
        rw [e1] at I'
        refine ih (pre := pre ++ [x]) (NF := NF) (σp := σp ++ [some v]) (by rw [hN]; simp) nd (fun y hy => hl y (List.mem_cons_of_mem _ hy)) (by simp [hp]) (by simpa using hv) I' rr fun s2 I2 => q s2 ?_
        have e2 : σp ++ [some v] ++ (vs.map some ++ fs) = σp ++ ((v :: vs).map some ++ fs) := by simp
        rw [e2] at I2
        exact I2
/-- the targets take what the iterator yields -/
theorem tg_set {tg : Expr} {NT NF : List Str} {T : Tgt} {fs : St} {s : Shared} {v : V} {u : Value} {vs : List V} {Q : Unit → Shared → Prop} (tk : TgOk tg NT T) (hN : X.N = NT ++ NF) (nd : X.N.Nodup) (hc : X.calm = true)
    (hl : ∀ x ∈ NT, X.env.scope.names.lookup x = some .local) (I : Inv X pins (List.replicate NT.length none ++ fs) H s) (r : RelV v u) (hv : tgV X.K T v H vs)
    (q : ∀ s', Inv X pins (vs.map some ++ fs) H s' → Q () s') : wpAny (model X.prog X.w) X.A (assign tg X.env u) Q E s := by
  cases T with
  | one =>
    obtain ⟨x, ⟨pos, rfl⟩, rfl⟩ := tk
    have hv' : vs = [v] := hv
    subst hv'
    have hx := hl x List.mem_cons_self
    exact wpAny_assign_Name (store_ok I nd (i := 0) (by rw [hN]; rfl) (.inl hx) r (fun s' I' => q s' I') (.inr hx))
  | many n =>
    obtain ⟨es, k, pos, rfl, p, hn⟩ := tk
    obtain ⟨a, rfl, hq, hlen⟩ := hv
    cases r
    obtain ⟨its, rv, ht, hz⟩ := I.tuple hq
    have e := each_names (env := X.env) p
    have hpl := p.length
    refine assign_Tuple_tuple (I.ok.hd hc) ht (by rw [e]; simp only [List.length_map, List.size_toArray]; rw [← rv.length]; omega) (by rw [e]; simp) fun h' hx => ?_
    have I1 : Inv X pins (List.replicate NT.length none ++ fs) H { s with heap := h' } := I.kept (t' := s.toks) fun b o e => hx b o (Nat.ne_of_lt (Heap.lt_size e)) e
    rw [e, List.map_map]
    exact names_set p (pre := []) (σp := []) (by rw [hN]; rfl) nd hl rfl (by omega) I1 (by simpa using rv) q
end

/-! ### a turn -/
def turnOf (target iter : Expr) (ifs : List Expr) (it : Value) (env : Env) (emit : Sem Unit) (more : Sem PySem.Fin) : Sem PySem.Fin := do
  standAt iter.pos
  match ← pyNext it with
  | none => pure (.done .next)
  | some v =>
    letOwnedTupleGo target it v
    assign target env v
    let mut ok := true
    for c in ifs do
      if ok then ok ← isTrue c env (eval c env)
    if ok then emit
    more
theorem turn_list' (elt target iter : Expr) (ifs : List Expr) (scope : Scope) (pos : Pos) (it acc : Value) (env : Env) :
    compTurn (.ListComp elt [⟨target, iter, ifs, 0⟩] scope pos) 0 it acc env = turnOf target iter ifs it env (do let _ ← call (.builtin "list.append") [acc, ← eval elt env]) (again (.compLoop (.ListComp elt [⟨target, iter, ifs, 0⟩] scope pos) 0 it acc env)) := by rfl
theorem turn_dict' (kx vx target iter : Expr) (ifs : List Expr) (scope : Scope) (pos : Pos) (it : Value) (D : Addr) (env : Env) :
    compTurn (.DictComp kx vx [⟨target, iter, ifs, 0⟩] scope pos) 0 it (.ref D) env = turnOf target iter ifs it env (do
            let kv ← eval kx env
            let vv ← holding [kv] (eval vx env)
            standAt { kx.pos with endLine := vx.pos.endLine, endCol := vx.pos.endCol }
            holding [kv, vv] (dictSet D kv vv)) (again (.compLoop (.DictComp kx vx [⟨target, iter, ifs, 0⟩] scope pos) 0 it (.ref D) env)) := by rfl

/-- the tests of a comprehension -/
def PTs (X : Cx) (ifs : List Expr) (t : TT) : Prop :=
  ∀ (pins : List (Addr × Obj)) (s : Shared) (σ : St) (H : Hp) (Q : Bool → Hp → Prop), Inv X pins σ H s → t σ H Q →
    wpAny (model X.prog X.w) X.A (forIn ifs true fun c r => if r = true then do let ok ← isTrue c X.env (eval c X.env); pure (ForInStep.yield ok) else pure (ForInStep.yield r)) (TP X pins σ Q) X.xe s
def tAll : TT := fun _ H Q => Q true H
theorem pts_nil {X : Cx} : PTs X [] tAll := fun _ _ _ H _ I h => wpAny_tests_nil ⟨H, I, h⟩
theorem pts_one {X : Cx} {c : Expr} {t : TT} (h : PT X c t) : PTs X [c] t := fun pins s σ H Q I q => wpAny_tests_one (h pins s σ H Q I q)
/-- what a turn lays into the whole -/
abbrev TM := St → Hp → (Hp → Prop) → Prop
def PM (X : Cx) (emit : Sem Unit) (t : TM) : Prop :=
  ∀ (pins : List (Addr × Obj)) (s : Shared) (σ : St) (H : Hp) (Q : Hp → Prop), Inv X pins σ H s → t σ H Q →
    wpAny (model X.prog X.w) X.A emit (fun _ s' => ∃ H', Inv X pins σ H' s' ∧ Q H') X.xe s
def tAppend (D : Addr) (te : TE) : TM := fun σ H Q => te σ H fun y H1 => ∃ xs, H1 D = some (.lst xs) ∧ xs.length < sizeLine ∧ Q (upd H1 D (.lst (xs ++ [y])))
theorem pm_append {X : Cx} {D : Addr} {elt : Expr} {te : TE} (he : PE X elt te) : PM X (do let _ ← call (.builtin "list.append") [.ref D, ← eval elt X.env]) (tAppend D te) := by
  intro pins s σ H Q I h
  refine wpAny_bind (thn (he pins s σ H _ I h) fun v s1 ⟨y, H1, I1, r1, xs, hD, hz, q⟩ => ?_)
  refine wpAny_bind (thn (mt_append (X := X) pins s1 σ H1 (.ref D) [y] (.ref D) [v] (fun _ H' => Q H') I1 rfl (.cons r1 .nil) ⟨D, xs, y, rfl, rfl, hD, hz, q⟩) fun _ s2 ⟨_, H2, I2, _, q2⟩ => wpAny_pure ⟨H2, I2, q2⟩)

/-- the block, turn by turn; done: what is wanted behind it -/
def tBlk (K : PySem.W.Frag) (T : Tgt) (ts : TT) (em : TM) (fs : St) (J : It) (H0 : Hp) (done : Hp → Prop) : Prop :=
  ∃ W : Nat → Nat → Hp → Prop, (∃ m, W 0 m H0) ∧ ∀ i m H, W i m H →
    (J.stop i H ∧ done H) ∨ (J.go i H ∧ ∀ x H', J.yld i H x H' → ∃ vs, tgV K T x H' vs ∧
      ts (vs.map some ++ fs) H' fun b H2 => if b = true then em (vs.map some ++ fs) H2 fun H3 => ∃ m', m' < m ∧ W (i + 1) m' H3 else ∃ m', m' < m ∧ W (i + 1) m' H2)

section
variable {X : Cx} {NT NF : List Str} {tg iter e : Expr} {ifs : List Expr} {T : Tgt} {ts : TT} {em : TM} {emit : Sem Unit} {acc : Value} {fp : List Addr} {it : Addr} {J : It} {tn : Nat → Heap → Prop}
theorem blk_weak {fs : St} {vs : List V} {pins : List (Addr × Obj)} {H : Hp} {s : Shared} (hv : vs.length = NT.length) (I : Inv X pins (vs.map some ++ fs) H s) : Inv X pins (List.replicate NT.length none ++ fs) H s :=
  I.weak (by simp [hv]) fun i v h => by
    by_cases hi : i < NT.length
    · rw [List.getElem?_append_left (by simpa using hi), List.getElem?_replicate] at h
      split at h <;> cases h
    · rw [List.getElem?_append_right (by simp; omega)] at h ⊢
      simpa [hv] using h
theorem tgV.len {tg : Expr} {K : PySem.W.Frag} {x : V} {H : Hp} {vs : List V} (tk : TgOk tg NT T) (h : tgV K T x H vs) : vs.length = NT.length := by
  cases T with
  | one => obtain ⟨y, _, rfl⟩ := tk; rw [show vs = [x] from h]; rfl
  | many n => obtain ⟨_, _, _, _, _, e⟩ := tk; obtain ⟨_, _, _, e'⟩ := h; omega
theorem blk_loop {R : Result → Shared → Prop} {fs : St} {H : Hp} {s : Shared} {done : Hp → Prop} (hx : X.xe = fun _ _ => False) (hT : compTurn e 0 (.ref it) acc X.env = turnOf tg iter ifs (.ref it) X.env emit (again (.compLoop e 0 (.ref it) acc X.env)))
    (hq : (Code.compLoop e 0 (.ref it) acc X.env).isFrame = false) (hqu : (Code.compLoop e 0 (.ref it) acc X.env).quiet = true) (hA : X.A.under (Code.compLoop e 0 (.ref it) acc X.env) = X.A)
    (tk : TgOk tg NT T) (hN : X.N = NT ++ NF) (nd : X.N.Nodup) (hc : X.calm = true) (hl : ∀ x ∈ NT, X.env.scope.names.lookup x = some .local)
    (hts : PTs X ifs ts) (hem : PM X emit em) (TT : Turn X.prog X.w X.K tg J fp it tn) (hf : ∀ b ∈ fp, FpOk X [] H b) (I : Inv X [] (List.replicate NT.length none ++ fs) H s) (st : tn 0 s.heap) (hb : tBlk X.K T ts em fs J H done)
    (hR : ∀ H' s' σ', Inv X [] σ' H' s' → done H' → R (.ok .next) s') :
    codeAny (model X.prog X.w) X.A (.compLoop e 0 (.ref it) acc X.env) R s := by
  obtain ⟨W, ⟨m0, w0⟩, turn⟩ := hb
  have stat : ∀ {H' : Hp}, (∀ b ∈ fp, H' b = none) → ∀ b ∈ fp, FpOk X [] H' b := fun hn b hb => ⟨hn b hb, (hf b hb).2⟩
  have noE : ∀ {α : Type} {t : Sem α} {Q : α → Shared → Prop} {E : Value → Shared → Prop} {s : Shared}, wpAny (model X.prog X.w) X.A t Q (fun _ _ => False) s → wpAny (model X.prog X.w) X.A t Q E s := fun h => wpAny_mono h (fun _ _ z => z) fun _ _ z => z.elim
  have noX : ∀ {α : Type} {t : Sem α} {Q : α → Shared → Prop} {E : Value → Shared → Prop} {s : Shared}, wpAny (model X.prog X.w) X.A t Q X.xe s → wpAny (model X.prog X.w) X.A t Q E s := fun h => noE (by rw [hx] at h; exact h)
  refine codeAny_loop hqu (fun n s' => ∃ i H', Inv X [] (List.replicate NT.length none ++ fs) H' s' ∧ tn i s'.heap ∧ (∀ b ∈ fp, H' b = none) ∧ W i n H') ?_ m0 ⟨0, H, I, st, fun b hb => (hf b hb).1, w0⟩
  rintro n s3 ⟨i, H3, I3, st3, fr3, w3⟩
  rw [hA]
  show wpAny _ X.A (if (Code.compLoop e 0 (.ref it) acc X.env).isFrame = true then (compTurn e 0 (.ref it) acc X.env).onRaise (leaving X.env) else (compTurn e 0 (.ref it) acc X.env).onRaise (fun x => do noteFrame x X.env; theTreesLotGoes x)) _ _ s3
  rw [hq, if_neg Bool.false_ne_true]
  refine wpAny_noted (noE ?_)
  rw [hT]
  unfold turnOf
  refine wpAny_bind (wpAny_standAt (wpAny_bind ?_))
  rcases turn i n H3 w3 with ⟨stop, qn⟩ | ⟨go, step⟩
  · refine thn (TT.done X rfl rfl rfl hc i [] s3 _ H3 _ I3 (stat fr3) st3 stop) fun r s4 ⟨hr, I4⟩ => ?_
    subst hr
    exact wpAny_pure (hR H3 s4 _ I4 qn)
  · refine thn (TT.item X rfl rfl rfl hc i [] s3 _ H3 _ I3 (stat fr3) st3 go) fun r s4 ⟨u, hr, h4⟩ => ?_
    subst hr
    refine wpAny_bind (thn h4 fun _ s5 ⟨x, H5, I5, r5, y5, st5, fr5⟩ => ?_)
    have I5' := I5.pinned (stat fr5) (TT.obj _ _ st5)
    obtain ⟨vs, hv, q5⟩ := step x H5 y5
    have hvl := tgV.len tk hv
    refine wpAny_bind (tg_set tk hN nd hc hl I5' r5 hv fun s6 I6 => ?_)
    refine wpAny_bind (noX (thn (hts _ s6 _ H5 _ I6 q5) fun b s7 ⟨H7, I7, q7⟩ => ?_))
    have again' : ∀ {s8 : Shared} {H8 : Hp}, Inv X ([] ++ pinsAt fp s5.heap) (vs.map some ++ fs) H8 s8 → (∃ m', m' < n ∧ W (i + 1) m' H8) →
        (Code.compLoop e 0 (.ref it) acc X.env = Code.compLoop e 0 (.ref it) acc X.env) ∧ ∃ m, m < n ∧ ∃ i H', Inv X [] (List.replicate NT.length none ++ fs) H' s8 ∧ tn i s8.heap ∧ (∀ b ∈ fp, H' b = none) ∧ W i m H' := fun {s8 H8} I8 n8 => by
      obtain ⟨m', hm, w8⟩ := n8
      refine ⟨rfl, m', hm, i + 1, H8, blk_weak hvl I8.unpinned, TT.keep _ _ _ st5 fun b hb o e => (I8.pin (b, o) (List.mem_append_right _ (List.mem_append_right _ (mem_pinsAt hb e)))).1, fun b hb => ?_, w8⟩
      obtain ⟨o, e, d⟩ := TT.obj _ _ st5 b hb
      exact (I8.pin (b, o) (List.mem_append_right _ (List.mem_append_right _ (mem_pinsAt hb e)))).2.1
    cases b with
    | false => exact wpAny_pure (again' I7 q7)
    | true => exact wpAny_bind (noX (thn (hem _ s7 _ H7 _ I7 q7) fun _ s8 ⟨H8, I8, q8⟩ => wpAny_pure (again' I8 q8)))
end
end L2

namespace L2
open PySem PySem.Spec PyProof.Rows
/-- what a block is run with -/
structure Bk where
  cl : List (Str × Addr)
  C : Addr
  s : Shared
  H : Hp
  fp : List Addr
abbrev Cx.bk (X : Cx) (N : List Str) (scope : Scope) (b : Bk) : Cx := X.blk N scope b.cl b.C b.s b.H b.fp
section
variable {X : Cx} {NT NF : List Str} {js : List Nat} {elt kx vx tg iter e : Expr} {ifs : List Expr} {T : Tgt} {wi : TI} {ts : Bk → TT} {te tk' tv : Bk → TE} {scope : Scope} {pos : Pos}
def tLC (K : PySem.W.Frag) (wi : TI) (T : Tgt) (ts : Bk → TT) (te : Bk → TE) (js : List Nat) : TE := fun σ H Q => wi σ H fun J H1 => ∀ D, H1 D = none → ∀ b, tBlk K T (ts b) (tAppend D (te b)) (frees js σ) J (upd H1 D (.lst [])) (Q (.ref D))

/-- the list's block from its start on; R as the comprehension's end wants it -/
theorem lc_run {pins : List (Addr × Obj)} {σ : St} {s2 : Shared} {H2 : Hp} {cl : List (Str × Addr)} {it : Addr} {fp : List Addr} {tn : Nat → Heap → Prop} {J : It} {Q : Hp → Prop} {RR : Value → Addr → Result → Shared → Prop} {E : Value → Shared → Prop}
    (B : BlkOk X NT NF js scope) (tk : TgOk tg NT T) (hc : X.calm = true)
    (hin : ∀ b, PTs (X.bk (NT ++ NF) scope b) ifs (ts b) ∧ PE (X.bk (NT ++ NF) scope b) elt (te b))
    (q2 : ∀ n c, cl.lookup n = some c → X.env.cells.lookup n = some c) (q3 : ∀ y ∈ scope.names, y.2 = .free → ∃ c, cl.lookup y.1 = some c)
    (I2 : Inv X pins σ H2 s2) (TT : Turn X.prog X.w X.K tg J fp it tn) (st2 : tn 0 s2.heap) (f2 : ∀ b ∈ fp, FpOk X pins H2 b)
    (q : ∀ b, tBlk X.K T (ts b) (tAppend s2.heap.objs.size (te b)) (frees js σ) J (upd H2 s2.heap.objs.size (.lst [])) Q)
    (hR : ∀ C H' s' m, Inv X pins σ H' s' → FpOk X pins H' C → s'.heap.Ns C m → Q H' → RR (.ref s2.heap.objs.size) C (.ok .next) s') :
    wpAny (model X.prog X.w) X.A (newList []) (fun acc s₃ => wpAny (model X.prog X.w) X.A (newFunctionEnv scope X.env.globals cl [] X.env.qual none .none (some X.env)) (fun cenv s₄ =>
      codeAny (model X.prog X.w) X.A (.compStart (.ListComp elt [⟨tg, iter, ifs, 0⟩] scope pos) 0 (.ref it) acc { cenv with scope := relabel scope X.env }) (RR acc cenv.locals) s₄) E s₃) E s2 := by
  refine wpAny_newObj_type ?_
  have hD : H2 s2.heap.objs.size = none := I2.hok.fresh (Nat.le_refl _)
  have I3 : Inv X pins σ (upd H2 s2.heap.objs.size (.lst [])) { s2 with heap := s2.heap.push { cls := .type "list", dict := none, data := .seq ([] : List Value).toArray } } :=
    I2.laid (t' := s2.toks) (fun b o e => Heap.get?_push_of_some _ e) (Nat.le_refl _) ⟨Nat.zero_le _, [], 0, .nil, Heap.get?_push_size _ rfl⟩
  have hsz : (s2.heap.push { cls := .type "list", dict := none, data := .seq ([] : List Value).toArray }).objs.size = s2.heap.objs.size + 1 := Heap.size_push ..
  refine wpAny_newFunctionEnv B.cell (by intro y hy; simp at hy) (fun h₁ hns₁ hsb₁ => ?_) B.kind
  have lt2 : ∀ b ∈ fp, b < s2.heap.objs.size := fun b hb => by
    obtain ⟨o, e, _⟩ := TT.obj 0 _ st2 b hb
    exact Heap.lt_size e
  have f3 : ∀ b ∈ fp, FpOk X pins (upd H2 s2.heap.objs.size (.lst [])) b := fun b hb => ⟨by rw [upd_ne (Nat.ne_of_lt (lt2 b hb))]; exact (f2 b hb).1, (f2 b hb).2⟩
  have keep : ∀ b o, (s2.heap.push { cls := .type "list", dict := none, data := .seq ([] : List Value).toArray }).get? b = some o → h₁.get? b = some o := fun b o e =>
    hsb₁.extBut b o (Nat.ne_of_lt (Heap.lt_size e)) (Heap.get?_push_of_some _ e)
  have lt3 : ∀ b ∈ fp, b < (s2.heap.push { cls := .type "list", dict := none, data := .seq ([] : List Value).toArray }).objs.size := fun b hb => by have := lt2 b hb; rw [hsz]; exact Nat.lt_succ_of_lt this
  have I4 := I3.blk (s1 := { s2 with heap := h₁, toks := s2.toks + ([] : List (Str × Value)).length }) B q2 q3 f3 lt3 hns₁ keep rfl I2.bare
  have st4 : tn 0 h₁ := TT.keep 0 _ _ st2 fun b _ o e => keep b o (Heap.get?_push_of_some _ e)
  obtain ⟨i1, i2⟩ := hin ⟨cl, (s2.heap.push { cls := .type "list", dict := none, data := .seq ([] : List Value).toArray }).objs.size, { s2 with heap := s2.heap.push { cls := .type "list", dict := none, data := .seq ([] : List Value).toArray } }, upd H2 s2.heap.objs.size (.lst []), fp⟩
  have loop : codeAny (model X.prog X.w) X.A (.compLoop (.ListComp elt [⟨tg, iter, ifs, 0⟩] scope pos) 0 (.ref it) (.ref s2.heap.objs.size) (compEnvC scope cl (s2.heap.push { cls := .type "list", dict := none, data := .seq ([] : List Value).toArray }).objs.size X.env))
      (RR (.ref s2.heap.objs.size) (s2.heap.push { cls := .type "list", dict := none, data := .seq ([] : List Value).toArray }).objs.size) { s2 with heap := h₁, toks := s2.toks + ([] : List (Str × Value)).length } := by
    refine blk_loop (X := X.blk (NT ++ NF) scope cl (s2.heap.push { cls := .type "list", dict := none, data := .seq ([] : List Value).toArray }).objs.size { s2 with heap := s2.heap.push { cls := .type "list", dict := none, data := .seq ([] : List Value).toArray } } (upd H2 s2.heap.objs.size (.lst [])) fp)
      (T := T) (fs := frees js σ) (done := Q) rfl (turn_list' elt tg iter ifs scope pos _ _ _) rfl rfl rfl tk rfl B.nd hc (fun x hx => lookup_relabel_local (B.tg x hx)) i1 (pm_append i2) TT (fun b hb => ?_) I4 st4 (q _) fun H' s' σ' J' qd => ?_
    · exact ⟨(f3 b hb).1, Nat.ne_of_lt (lt3 b hb), fun hb2 => by
        rcases List.mem_cons.mp (I3.stkSub b hb2) with z | z
        · exact (f3 b hb).2.1 z
        · exact (f3 b hb).2.2.1 z, .inl hb, fun x c e => (f3 b hb).2.2.2.2.1 x c (q2 x c e), fun p hp => (nomatch (show p ∈ ([] : List (Addr × Obj)) from hp))⟩
    · obtain ⟨m, hn, _⟩ := J'.loc
      exact hR _ H' s' m (I3.unblk f3 J') (I3.fpOk (Nat.le_refl _) J'.free) hn qd
  exact codeAny_compStart_list loop (TT.self _ 0 _ _ _ st4 loop)

theorem pe_lc (B : BlkOk X NT NF js scope) (tk : TgOk tg NT T) (hc : X.calm = true) (hi : PI X tg iter wi)
    (hin : ∀ b, PTs (X.bk (NT ++ NF) scope b) ifs (ts b) ∧ PE (X.bk (NT ++ NF) scope b) elt (te b))
    (hs : ∀ x, foldedSetIterable iter X.env x = pure x := by intro _; rfl) : PE X (.ListComp elt [⟨tg, iter, ifs, 0⟩] scope pos) (tLC X.K wi T ts te js) := by
  intro pins s σ H Q I h
  obtain ⟨cl, hclos, q2, q3⟩ := closure_of (env := X.env) (scope := scope) fun y hy e => I.ok.has y.1 (B.free y hy e)
  rw [eval_ListComp]
  refine wpAny_comprehension_free (use := none) rfl hs hclos B.kind B.names (thn (hi pins s σ H _ I h) fun v s1 h1 => thn h1 fun itv s2 ⟨it, fp, tn, J, H2, e, I2, TT, st2, f2, q⟩ => ?_)
  subst e
  refine lc_run (Q := fun H' => Q (.ref s2.heap.objs.size) H') (RR := fun acc C => compPost (model X.prog X.w) X.A X.xe none (EP X pins σ Q) acc C) B tk hc hin q2 q3 I2 TT st2 f2 (q _ (I2.hok.fresh (Nat.le_refl _))) fun C H' s' m I' fC hn qd => ?_
  refine ⟨m, hn, fun h' sb => ⟨.ref s2.heap.objs.size, H', ?_, rfl, qd⟩⟩
  exact I'.turned (t' := s'.toks) (fun b o hb e => (sb.2 b hb).trans e) fC.1 fC.2.1 fC.2.2.2.1 fC.2.2.2.2.1 fC.2.2.2.2.2

/-- name = [.. for ..] (the stores are exchanged) -/
theorem ps_setLC {i : Nat} {y : Str} {pos' spos : Pos} (B : BlkOk X NT NF js scope) (tk : TgOk tg NT T) (hc : X.calm = true) (hi : PI X tg iter wi)
    (hin : ∀ b, PTs (X.bk (NT ++ NF) scope b) ifs (ts b) ∧ PE (X.bk (NT ++ NF) scope b) elt (te b))
    (hsw : swapsWith (.ListComp elt [⟨tg, iter, ifs, 0⟩] scope pos) (some (.Name y pos')) spos.line X.env = pure true)
    (hN : X.N.Nodup) (hI : X.N[i]? = some y) (hy : X.env.scope.names.lookup y = some .local)
    (hs : ∀ x, foldedSetIterable iter X.env x = pure x := by intro _; rfl) : PS X (.Assign [.Name y pos'] (.ListComp elt [⟨tg, iter, ifs, 0⟩] scope pos) spos) (tAsg (tLC X.K wi T ts te js) (gName i)) := by
  intro pins s σ H D I h
  obtain ⟨cl, hclos, q2, q3⟩ := closure_of (env := X.env) (scope := scope) fun y hy e => I.ok.has y.1 (B.free y hy e)
  rw [exec_Assign_Name_used _ _ _ _ hsw]
  refine wpAny_bind (wpAny_standAt (wpAny_bind ?_))
  show wpAny _ X.A (do let _ ← comprehension (.ListComp elt [⟨tg, iter, ifs, 0⟩] scope pos) scope X.env _ (newList []) false (eval iter X.env) (some (assign (.Name y pos') X.env))) _ _ s
  refine wpAny_bind (wpAny_mono (wpAny_comprehension_free (use := some (assign (.Name y pos') X.env)) (Q := fun _ s' => SP X pins D .next s') rfl hs hclos B.kind B.names
    (thn (hi pins s σ H _ I h) fun v s1 h1 => thn h1 fun itv s2 ⟨it, fp, tn, J, H2, e, I2, TT, st2, f2, q⟩ => ?_)) (fun _ s' hq => wpAny_pure (wpAny_pure hq)) fun _ _ e => e)
  subst e
  refine lc_run (Q := fun H' => D.nx (σ.set i (some (.ref s2.heap.objs.size))) H') (RR := fun acc C => compPost (model X.prog X.w) X.A X.xe (some (assign (.Name y pos') X.env)) (fun _ s' => SP X pins D .next s') acc C) B tk hc hin q2 q3 I2 TT st2 f2 (q _ (I2.hok.fresh (Nat.le_refl _))) fun C H' s' m I' fC hn qd => ?_
  show wpAny _ X.A (assign (.Name y pos') X.env (.ref s2.heap.objs.size)) _ _ _
  refine wpAny_assign_Name (store_ok2 I' hN hI (.inl hy) (v := .ref s2.heap.objs.size) rfl (fun s3 I3 ⟨a, sb, ha⟩ => ?_) (.inr hy))
  have hCa : C ≠ a := by
    rcases ha with z | z
    · rw [z]; exact fC.2.1
    · exact fun w => fC.2.2.2.2.1 y a z w.symm
  refine ⟨m, hn.sameBut sb hCa, fun h' sb' => ⟨_, H', ?_, qd⟩⟩
  exact I3.turned (t' := s3.toks) (fun b o hb e => (sb'.2 b hb).trans e) fC.1 fC.2.1 fC.2.2.2.1 fC.2.2.2.2.1 fC.2.2.2.2.2
end
end L2

namespace L2
open PySem PySem.Spec PyProof.Rows

/-! ### the signs of a text -/
def Its (z : Str) : It := ⟨fun i _ => i < z.cps.size, fun i H x H' => H' = H ∧ ∃ c, z.cps[i]? = some c ∧ x = .str ⟨#[c]⟩, fun i _ => z.cps.size ≤ i⟩
theorem turn_str {P : Program} {w : World} {K : PySem.W.Frag} {tg : Expr} {z : Str} {t : Tok} {ty : String} {it : Addr} (hty : ty = "str_ascii_iterator" ∨ ty = "str_iterator") (hgo : ∀ i u, letOwnedTupleGo tg i u = pure ()) :
    Turn P w K tg (Its z) [it] it (fun i h => h.IsStrIter it ty z t i) where
  mem := by simp
  obj := fun i h st b hb => by
    have e : b = it := by simpa using hb
    subst e
    obtain ⟨o, e, c, d⟩ := st
    exact ⟨o, e, fun v q => by rw [d] at q; cases q⟩
  keep := fun i h h' st k => let ⟨o, ho, r⟩ := st; ⟨o, k it (by simp) o ho, r⟩
  item := by
    intro X hP hw hK hc i pins s σ H E I hf st hg
    subst hP hw hK
    obtain ⟨f0, f1, f2, f3, f4, f5⟩ := hf it (by simp)
    have hi : i < z.cps.size := hg
    have W : Walks X.prog X.w X.A it [it] [it] z.cps.size (SignAt z) (fun i h => h.IsStrIter it ty z t i) := by
      rcases hty with rfl | rfl
      · exact Walks.strAscii (I.ok.hd hc) it z t
      · exact Walks.strWide (I.ok.hd hc) it z t
    refine W.item i s _ _ hi st fun v h' tk hv st' kk => ?_
    obtain ⟨c, u, hc', rfl⟩ := hv
    have I1 : Inv X pins σ H { s with heap := h', toks := tk } := I.turned (fun b o hb e => kk b o (by simpa using hb) e) f0 f1 f3 f4 f5
    refine ⟨_, rfl, ?_⟩
    rw [hgo]
    exact wpAny_pure ⟨.str ⟨#[c]⟩, H, I1, ⟨u, rfl⟩, ⟨rfl, c, hc', rfl⟩, st', fun b hb => (hf b hb).1⟩
  done := by
    intro X hP hw hK hc i pins s σ H E I hf st hg
    subst hP hw hK
    obtain ⟨f0, f1, f2, f3, f4, f5⟩ := hf it (by simp)
    have hi : z.cps.size ≤ i := hg
    rcases hty with rfl | rfl
    · exact wpAny_pyNext_ascii_end (I.ok.hd hc) st (by simpa using hi) fun h' eb => ⟨rfl, I.turned (t' := s.toks) (fun b o hb e => eb b o hb e) f0 f1 f3 f4 f5⟩
    · exact wpAny_pyNext_wide_end (I.ok.hd hc) st (by simpa using hi) fun h' eb => ⟨rfl, I.turned (t' := s.toks) (fun b o hb e => eb b o hb e) f0 f1 f3 f4 f5⟩
  self := fun _ _ _ _ _ st h => by
    rcases hty with rfl | rfl
    · exact wpAny_pyIter_striter_ascii st h
    · exact wpAny_pyIter_striter_wide st h
section
variable {X : Cx} {tg : Expr}
def iStr (tl : TE) : TI := fun σ H R => tl σ H fun x H1 => ∃ z, x = .str z ∧ R (Its z) H1
theorem pi_str {l : Expr} {tl : TE} (hl : PE X l tl) (hgo : ∀ i u, letOwnedTupleGo tg i u = pure () := by intro _ _; rfl) : PI X tg l (iStr tl) := by
  intro pins s σ H R I h
  refine thn (hl pins s σ H _ I h) fun v s1 ⟨x, H1, I1, r1, q1⟩ => ?_
  obtain ⟨z, e, q⟩ := q1
  subst e
  obtain ⟨t, rfl⟩ := r1
  have fin : ∀ (o : Obj) (ty : String), (ty = "str_ascii_iterator" ∨ ty = "str_iterator") → Heap.IsStrIter (s1.heap.push o) s1.heap.objs.size ty z t 0 → PIE X pins σ tg R (.ref s1.heap.objs.size) { s1 with heap := s1.heap.push o } := fun o ty hty st => by
    refine ⟨s1.heap.objs.size, [s1.heap.objs.size], _, _, H1, rfl, I1.kept (t' := s1.toks) fun b o e => Heap.get?_push_of_some _ e, turn_str hty hgo, st, fun b hb => ?_, q⟩
    have e : b = s1.heap.objs.size := by simpa using hb
    subst e
    exact I1.fpOk (Nat.le_refl _) (I1.hok.fresh (Nat.le_refl _))
  cases ha : z.cps.all (· < 128)
  · exact wpAny_pyIter_wide ha (fin _ _ (.inr rfl) ⟨_, Heap.get?_push_size _ rfl, rfl, rfl⟩)
  · exact wpAny_pyIter_ascii ha (fin _ _ (.inl rfl) ⟨_, Heap.get?_push_size _ rfl, rfl, rfl⟩)

/-! ### texts -/
theorem op_le_str : OpR X (compareOp .LtE) (fun x y H Q => ∃ i j, x = .str i ∧ y = .str j ∧ Q (.bl (!(decide (j.cps.toList < i.cps.toList)))) H) := by
  intro pins s σ H x y v u Q I rx ry h
  obtain ⟨i, j, rfl, rfl, q⟩ := h
  obtain ⟨t, rfl⟩ := rx
  obtain ⟨t', rfl⟩ := ry
  exact PySem.P.le_str (fin_bl I q rfl)
theorem strsAre_of : ∀ {ys : List Str} {us : List Value}, Vals (ys.map V.str) us → StrsAre us ys
  | [], _, h => by cases h; exact .nil
  | y :: ys, _, h => by
    cases h with
    | cons r rr =>
      obtain ⟨t, rfl⟩ := r
      exact .cons y t (strsAre_of rr)
theorem mt_join : MtM X "str.join" (fun x xs H Q => ∃ z p ys, x = .str z ∧ xs = [.ref p] ∧ SqL X.K H p (ys.map V.str) ∧ (ys.map (·.length)).sum + ys.length * z.length ≤ 16777216 ∧ Q (.str (Txt.join z ys)) H) := by
  intro pins s σ H x xs v us Q I rx r h
  obtain ⟨z, p, ys, rfl, rfl, hp, hz, q⟩ := h
  obtain ⟨t, rfl⟩ := rx
  obtain ⟨u, rfl, ru⟩ := vals1 r
  cases ru
  obtain ⟨its, rv, pl, _⟩ := I.list hp
  exact join_list pl.isList (by simpa using strsAre_of rv) hz fun t' k => ⟨.str _, H, I.tok _, ⟨_, rfl⟩, q⟩
end
end L2

namespace L2
open PySem PySem.Spec PyProof.Rows
section
variable {X : Cx}
/-- z[lo:hi] of a text -/
theorem part_of {v : Value} {o : Option Int} (h : IsPart v o) : ∃ l : Option (Int × Tok), v = partValue l ∧ l.map (·.1) = o := by
  cases h with
  | none => exact ⟨none, rfl, rfl⟩
  | int i t => exact ⟨some (i, t), rfl, rfl⟩
theorem sl_str : SlR X (fun x lo hi H Q => ∃ z, x = .str z ∧ z.length ≤ sizeLine ∧ Q (.str (Txt.slice z lo hi)) H) := by
  intro pins s σ H x v vl vu lo hi sl Q I rx hs pl pu h
  obtain ⟨z, rfl, hz, q⟩ := h
  obtain ⟨t, rfl⟩ := rx
  obtain ⟨l, rfl, rfl⟩ := part_of pl
  obtain ⟨u, rfl, rfl⟩ := part_of pu
  refine ⟨"str", _, F.slot_str_getitem.lookup, typeIs_str s z t, ?_⟩
  exact wpAny_getItem_str_slice (l := l) (u := u) (st := none) hs rfl (post_val_or_str ⟨Nat.le_trans (Txt.slice_le z _ _) hz, fun t' k => ⟨.str _, H, I.tok _, ⟨t', rfl⟩, q⟩⟩)
def repS (z : Str) (n : Nat) : Str := ⟨(List.replicate n z.cps).foldl (· ++ ·) #[]⟩
theorem op_mul_str : OpR X (binaryOp .Mult) (fun x y H Q => ∃ z n, x = .str z ∧ y = .int n ∧ 2 ≤ n ∧ 1 ≤ z.length ∧ z.length * n.toNat ≤ sizeLine ∧ (repS z n.toNat).length ≤ sizeLine ∧ Q (.str (repS z n.toNat)) H) := by
  intro pins s σ H x y v u Q I rx ry h
  obtain ⟨z, n, rfl, rfl, hn, hz0, hz, hz2, q⟩ := h
  obtain ⟨t, rfl⟩ := rx
  obtain ⟨t', rfl⟩ := ry
  have hl := line63
  have h1 : n.toNat ≤ z.length * n.toNat := Nat.le_mul_of_pos_left _ hz0
  have hsl : sizeLine = 16777216 := sizeLine_eq
  have hn63 : n < 2 ^ 63 := by omega
  refine PySem.P.mul_str (by simp; omega) (fun _ _ => ?_) (fun _ _ => by unfold PySem.Builtin.Str.tooLong; simpa using hz) ?_
  · have h2 : (z.length : Int) * n ≤ 2 ^ 63 - 1 := by
      have : ((z.length * n.toNat : Nat) : Int) ≤ (sizeLine : Nat) := by exact_mod_cast hz
      rw [Int.natCast_mul, Int.toNat_of_nonneg (by omega)] at this
      omega
    intro hgt
    have h3 : (2 ^ 63 - 1) / n < (z.length : Int) := hgt
    have h4 := (Int.ediv_lt_iff_lt_mul (by omega : (0 : Int) < n)).mp h3
    omega
  · rw [if_neg (by omega), if_neg (by
      intro hb
      rw [Bool.or_eq_true] at hb
      rcases hb with hb | hb
      · have := eq_of_beq hb; omega
      · have := eq_of_beq hb; omega)]
    exact ⟨hz2, ⟨.str _, H, I.tok _, ⟨_, rfl⟩, q⟩⟩

/-! ### all, sum of a list -/
theorem bools_of : ∀ {bs : List Bool} {us : List Value}, Vals (bs.map V.bl) us → us = bs.map Value.bool
  | [], _, h => by cases h; rfl
  | b :: bs, _, h => by
    cases h with
    | cons r rr =>
      cases r
      rw [bools_of rr]
      rfl
theorem call_all (hc : X.calm = true) : CallR X (.builtin "all") (fun xs H Q => ∃ (p : Addr) (bs : List Bool), xs = [.ref p] ∧ SqL X.K H p (bs.map V.bl) ∧ Q (.bl (bs.all id)) H) := by
  intro pins s σ H xs us Q I r h
  obtain ⟨p, bs, rfl, hp, q⟩ := h
  obtain ⟨u, rfl, ru⟩ := vals1 r
  cases ru
  obtain ⟨its, rv, pl, _⟩ := I.list hp
  have hl := pl.isList
  have e0 := bools_of rv
  subst e0
  have hlt : p < s.heap.objs.size := by obtain ⟨_, e, _⟩ := hl; exact Heap.lt_size e
  refine call_all_walk (wpAny_pyIter_list hl ?_)
  refine ⟨s.heap.objs.size, [s.heap.objs.size, p], [s.heap.objs.size], (bs.map Value.bool).toArray.size, _, _, fun i => (bs[i]?).getD true, rfl, Walks.list (A := X.A.in1) (I.ok.hd hc) _ p (Nat.ne_of_lt hlt) (bs.map Value.bool).toArray,
    ⟨⟨_, Heap.get?_push_size _ rfl, rfl, rfl⟩, hl.push _⟩, fun i v s' Q' E' hP hQ => ?_, fun h' tk hk => ?_⟩
  · have hP' : (bs.map Value.bool)[i]? = some v := by simpa using hP
    rw [List.getElem?_map] at hP'
    cases e : bs[i]? with
    | none => rw [e] at hP'; cases hP'
    | some b =>
      rw [e] at hP'
      cases hP'
      simp only [e, Option.getD_some] at hQ
      exact wpAny_truthy_bool hQ
  · have e : ((List.range (bs.map Value.bool).toArray.size).all fun i => (bs[i]?).getD true) = bs.all id := by
      have : (bs.map Value.bool).toArray.size = bs.length := by simp
      rw [this, Bool.eq_iff_iff, List.all_eq_true, List.all_eq_true]
      constructor
      · intro h b hb
        obtain ⟨i, hi, rfl⟩ := List.getElem_of_mem hb
        have := h i (List.mem_range.mpr hi)
        simpa [List.getElem?_eq_getElem hi] using this
      · intro h i hi
        have hi' := List.mem_range.mp hi
        simp only [List.getElem?_eq_getElem hi', Option.getD_some]
        exact h _ (List.getElem_mem hi')
    rw [e]
    refine ⟨.bl _, H, I.kept fun b x e => hk b x (fun hm => ?_) (Heap.get?_push_of_some _ e), rfl, q⟩
    rw [List.mem_singleton.mp hm] at e
    exact Nat.lt_irrefl _ (Heap.lt_size e)
end
end L2

namespace L2
open PySem PySem.Spec PyProof.Rows
/-! ### data: what a value is, all the way down -/
mutual
def RD (K : PySem.W.Frag) (H : Hp) : PyData → V → Prop
  | .none, v => v = .non
  | .bool b, v => v = .bl b
  | .int i, v => v = .int i
  | .str x, v => v = .str x
  | .tuple ds, v => ∃ a vs, v = .ref a ∧ SqT K H a vs ∧ RDs K H ds vs
  | .list ds, v => ∃ a vs, v = .ref a ∧ SqL K H a vs ∧ RDs K H ds vs
  | .dict _, _ => False
def RDs (K : PySem.W.Frag) (H : Hp) : List PyData → List V → Prop
  | [], vs => vs = []
  | d :: ds, vs => ∃ v r, vs = v :: r ∧ RD K H d v ∧ RDs K H ds r
end
theorem SqT.same {K : PySem.W.Frag} {H H' : Hp} {a : Addr} {xs : List V} (e : ∀ b ys, H b = some (.tup ys) → H' b = some (.tup ys)) (ef : ∀ b o u, H b = some (.frz o u) → H' b = some (.frz o u)) (h : SqT K H a xs) : SqT K H' a xs := by
  rcases h with (h | ⟨o, h⟩) | h
  · exact .inl (.inl (e _ _ h))
  · exact .inl (.inr ⟨o, ef _ _ _ h⟩)
  · exact .inr h
mutual
theorem RD.same {K : PySem.W.Frag} {H H' : Hp} (e : Same H H') : ∀ {d : PyData} {v : V}, RD K H d v → RD K H' d v
  | .none, _, h => h
  | .bool _, _, h => h
  | .int _, _, h => h
  | .str _, _, h => h
  | .tuple ds, v, h => by
    obtain ⟨a, vs, e1, q, r⟩ := h
    exact ⟨a, vs, e1, q.same (fun b ys z => e _ _ z) (fun b o u z => e _ _ z), RDs.same e r⟩
  | .list ds, v, h => by
    obtain ⟨a, vs, e1, q, r⟩ := h
    exact ⟨a, vs, e1, e.seq q, RDs.same e r⟩
theorem RDs.same {K : PySem.W.Frag} {H H' : Hp} (e : Same H H') : ∀ {ds : List PyData} {vs : List V}, RDs K H ds vs → RDs K H' ds vs
  | [], _, h => h
  | d :: ds, vs, h => by
    obtain ⟨v, r, e1, q, t⟩ := h
    exact ⟨v, r, e1, RD.same e q, RDs.same e t⟩
end
mutual
theorem RD.nodict {K : PySem.W.Frag} {H : Hp} : ∀ {d : PyData} {v : V}, RD K H d v → d.hasDict = false
  | .none, _, h => by simp [PyData.hasDict]
  | .bool _, _, h => by simp [PyData.hasDict]
  | .int _, _, h => by simp [PyData.hasDict]
  | .str _, _, h => by simp [PyData.hasDict]
  | .tuple ds, v, h => by
    obtain ⟨a, vs, e1, q, r⟩ := h
    simpa [PyData.hasDict] using RDs.nodict r
  | .list ds, v, h => by
    obtain ⟨a, vs, e1, q, r⟩ := h
    simpa [PyData.hasDict] using RDs.nodict r
theorem RDs.nodict {K : PySem.W.Frag} {H : Hp} : ∀ {ds : List PyData} {vs : List V}, RDs K H ds vs → PyData.hasDictAll ds = false
  | [], _, h => by simp [PyData.hasDictAll]
  | d :: ds, vs, h => by
    obtain ⟨v, r, e1, q, t⟩ := h
    simp [PyData.hasDictAll, RD.nodict q, RDs.nodict t]
end
section
variable {X : Cx} {pins : List (Addr × Obj)} {σ : St} {H : Hp} {s : Shared}
mutual
theorem RD.reads (I : Inv X pins σ H s) : ∀ {d : PyData} {v : V} {u : Value}, RD X.K H d v → RelV v u → ∃ as, Reads s.heap u d as
  | .none, _, _, h, r => by
    cases (show _ = V.non from h)
    cases r
    exact ⟨_, .none⟩
  | .bool b, _, _, h, r => by
    cases (show _ = V.bl b from h)
    cases r
    exact ⟨_, .bool b⟩
  | .int i, _, _, h, r => by
    cases (show _ = V.int i from h)
    obtain ⟨t, rfl⟩ := r
    exact ⟨_, .int i t⟩
  | .str x, _, _, h, r => by
    cases (show _ = V.str x from h)
    obtain ⟨t, rfl⟩ := r
    exact ⟨_, .str x t⟩
  | .tuple ds, v, u, h, r => by
    obtain ⟨a, vs, e1, q, t⟩ := h
    subst e1
    cases r
    obtain ⟨its, rv, ⟨o, e, c, n, d⟩, _⟩ := I.tuple q
    obtain ⟨as, R⟩ := RDs.reads I t rv
    exact ⟨_, .tuple e c d (by simpa using R)⟩
  | .list ds, v, u, h, r => by
    obtain ⟨a, vs, e1, q, t⟩ := h
    subst e1
    cases r
    obtain ⟨its, rv, ⟨o, n, e, c, _, d⟩, _⟩ := I.list q
    obtain ⟨as, R⟩ := RDs.reads I t rv
    exact ⟨_, .list e c d (by simpa using R)⟩
theorem RDs.reads (I : Inv X pins σ H s) : ∀ {ds : List PyData} {vs : List V} {us : List Value}, RDs X.K H ds vs → Vals vs us → ∃ as, ReadsAll s.heap us ds as
  | [], _, _, h, r => by
    cases (show _ = [] from h)
    cases r
    exact ⟨_, .nil⟩
  | d :: ds, vs, us, h, r => by
    obtain ⟨v, rr, e1, q, t⟩ := h
    subst e1
    cases r with
    | cons r1 r2 =>
      obtain ⟨as, R⟩ := RD.reads I q r1
      obtain ⟨bs, R2⟩ := RDs.reads I t r2
      exact ⟨_, .cons R R2⟩
end
end
section
variable {X : Cx}
theorem call_repr (hg : X.A.guards = some []) (hu : X.A.units + 64 < cLine) : CallR X (.builtin "repr") (fun xs H Q => ∃ v d, xs = [v] ∧ RD X.K H d v ∧ d.showable = true ∧ d.depth ≤ 60 ∧ d.shown.length ≤ sizeLine ∧ Q (.str d.shown) H) := by
  intro pins s σ H xs us Q I r h
  obtain ⟨v, d, rfl, hd, hs, hdep, hz, q⟩ := h
  obtain ⟨u, rfl, ru⟩ := vals1 r
  cases d with
  | none =>
    cases (show v = V.non from hd)
    cases ru
    exact PySem.P.repr_of_none ⟨.str _, H, I.tok _, ⟨_, rfl⟩, by simpa [PyData.shown] using q⟩
  | bool b =>
    cases (show v = V.bl b from hd)
    cases ru
    exact PySem.P.repr_of_bool ⟨.str _, H, I.tok _, ⟨_, rfl⟩, by simpa [PyData.shown] using q⟩
  | int i =>
    cases (show v = V.int i from hd)
    obtain ⟨t, rfl⟩ := ru
    exact PySem.P.repr_of_int (by simpa [PyData.showable] using hs) ⟨.str _, H, I.tok _, ⟨_, rfl⟩, by simpa [PyData.shown] using q⟩
  | str x =>
    cases (show v = V.str x from hd)
    obtain ⟨t, rfl⟩ := ru
    exact PySem.P.repr_of_str ⟨.str _, H, I.tok _, ⟨_, rfl⟩, by simpa [PyData.shown] using q⟩ (by simpa [PyData.shown] using hz)
  | dict kvs => exact hd.elim
  | tuple ds =>
    obtain ⟨as, R⟩ := hd.reads I ru
    obtain ⟨a, vs, e1, _, _⟩ := id hd
    subst e1
    cases ru
    exact repr_of_reads' R hs (PyData.noDict_hsm hd.nodict) hg (by omega) (fun _ _ e => e) (fun h' u tk hk => ⟨.str _, H, I.kept hk, ⟨_, rfl⟩, q⟩) hz
  | list ds =>
    obtain ⟨as, R⟩ := hd.reads I ru
    obtain ⟨a, vs, e1, _, _⟩ := id hd
    subst e1
    cases ru
    exact repr_of_reads' R hs (PyData.noDict_hsm hd.nodict) hg (by omega) (fun _ _ e => e) (fun h' u tk hk => ⟨.str _, H, I.kept hk, ⟨_, rfl⟩, q⟩) hz
end
end L2

namespace L2
open PySem PySem.Spec PyProof.Rows

/-! ### a comprehension's scope, looked at once -/
def relabelS (scope osc : Scope) : Scope :=
  { scope with names := scope.names.map fun (n, k) => if (k == .free && osc.kind == .function && osc.names.lookup n == some .cell) then (n, .cell) else (n, k) }
def blkChk (osc : Scope) (N0 NT NF : List Str) (js : List Nat) (scope : Scope) : Bool :=
  scope.kind == .function && scope.names.all (fun y => !(y.2 == .local) || scope.names.lookup y.1 == some .local) && scope.names.all (fun y => !(y.2 == .cell)) &&
    scope.names.all (fun y => !(y.2 == .free) || (osc.names.lookup y.1 == some .cell || osc.names.lookup y.1 == some .free)) && js.length == NF.length &&
    (js.zip NF).all (fun p => N0[p.1]? == some p.2 && scope.names.lookup p.2 == some .free) && NT.all (fun x => scope.names.lookup x == some .local) && decide (NT ++ NF).Nodup
theorem BlkC.ok {X : Cx} {osc : Scope} {N0 NT NF : List Str} {js : List Nat} {scope : Scope} (h : blkChk osc N0 NT NF js scope = true) (ho : X.env.scope = osc) (hN : X.N = N0) : BlkOk X NT NF js scope := by
  unfold blkChk at h
  simp only [Bool.and_eq_true] at h
  obtain ⟨⟨⟨⟨⟨⟨⟨h1, h2⟩, h3⟩, h4⟩, h5⟩, h6⟩, h7⟩, h8⟩ := h
  refine ⟨eq_of_beq h1, fun y hy e => ?_, fun y hy e => ?_, fun y hy e => ?_, by simpa using h5, fun k j x ej ex => ?_, fun x hx => ?_, of_decide_eq_true h8⟩
  · have := List.all_eq_true.mp h2 y hy
    rw [e] at this
    simpa using this
  · have := List.all_eq_true.mp h3 y hy
    rw [e] at this
    simp at this
  · have := List.all_eq_true.mp h4 y hy
    rw [e] at this
    rw [ho]
    simpa using this
  · have hm : (j, x) ∈ js.zip NF := by
      have : (js.zip NF)[k]? = some (j, x) := by
        rw [List.getElem?_zip_eq_some]
        exact ⟨ej, ex⟩
      exact List.mem_of_getElem? this
    have := List.all_eq_true.mp h6 _ hm
    simp only [Bool.and_eq_true] at this
    rw [hN]
    exact ⟨eq_of_beq this.1, eq_of_beq this.2⟩
  · exact eq_of_beq (List.all_eq_true.mp h7 x hx)

/-! ### a def as its callers know it -/
structure Has (P : Program) (w : World) (K : PySem.W.Frag) (mg : Str → Option Value) (base : Heap) (x : Str) (k : Nat) (ps : List Str) (sp : Sp) : Prop where
  ex : ∃ (f : Addr) (fd : FuncData), mg x = some (.ref f) ∧ PySem.W.keepIn K (.ref f) = true ∧ Binds K fd ps [] ∧ FnOk P w K mg base CX0 k f fd ps sp
section
variable {X : Cx} {x : Str} {k : Nat} {ps : List Str} {sp : Sp} {p pos : Pos} {e : Expr} {es : List Expr} {t : TA}
theorem pe_fn (F : Has X.prog X.w X.K X.mg X.base x k ps sp) (hr : Room k X.A) (hg : Gl X x) (ha : PA X (e :: es) t) (hdb : (x == ("__debug__" : Str)) = false := by decide)
    (he : starEach (e :: es) X.env = (false, eval e X.env) :: starEach es X.env := by rfl) (hpl : (backTo pos (starEach es X.env)).any (·.1) = false := by rfl) :
    PE X (.Call (.Name x p) (e :: es) [] pos) (tCall sp [] E0 t) := by
  obtain ⟨f, fd, h1, h2, h3, h4⟩ := F.ex
  exact pe_call h4 hr hg h1 h2 h3 .nil pass0 ha hdb he hpl
theorem call_isinst : CallR X (.builtin "isinstance") (fun xs H Q => ∃ x n t b, xs = [x, .ty n] ∧ TyOf X.K H x t ∧ PySem.W.kitOne X.K t (.type n) = some b ∧ Q (.bl b) H) := by
  intro pins s σ H xs us Q I r h
  obtain ⟨x, n, t, b, rfl, ty, e, q⟩ := h
  obtain ⟨u, u2, rfl, r1, r2⟩ := vals2 r
  cases r2
  exact isinst_ok I r1 ty e fun tk => ⟨.bl b, H, I.tok tk, rfl, q⟩
end

/-! ### blocks by an invariant -/
structure Fx (K : PySem.W.Frag) (T : Tgt) (J : It) (n : Nat) (vs : Nat → List V) (G : Hp → Prop) : Prop where
  go : ∀ i H, i < n → G H → J.go i H
  yld : ∀ i H x H', i < n → G H → J.yld i H x H' → H' = H ∧ tgV K T x H (vs i)
  stop : ∀ H, G H → J.stop n H
theorem fx_str {K : PySem.W.Frag} (z : Str) : Fx K .one (Its z) z.cps.size (fun i => [.str ⟨#[z.cps.getD i 0]⟩]) (fun _ => True) where
  go := fun i H hi _ => hi
  yld := fun i H x H' hi _ h => by
    obtain ⟨e, c, hc, rfl⟩ := h
    refine ⟨e, ?_⟩
    show [V.str ⟨#[z.cps.getD i 0]⟩] = [V.str ⟨#[c]⟩]
    have : z.cps.getD i 0 = c := by
      rw [Array.getElem?_eq_getElem hi] at hc
      cases hc
      simp [Array.getD, hi]
    rw [this]
  stop := fun H _ => Nat.le_refl _
theorem fx_range {K : PySem.W.Frag} (lo : Int) (n : Nat) : Fx K .one (Itr lo n) n (fun i => [.int (lo + i)]) (fun _ => True) where
  go := fun i H hi _ => hi
  yld := fun i H x H' hi _ h => ⟨h.1, by show [V.int (lo + i)] = [x]; rw [h.2]⟩
  stop := fun H _ => Nat.le_refl _
theorem fx_list {K : PySem.W.Frag} (a : Addr) (xs : List V) : Fx K .one (Itl K a) xs.length (fun i => [xs.getD i .non]) (fun H => SqL K H a xs) where
  go := fun i H hi h => ⟨xs, xs[i], h, by simp [hi]⟩
  yld := fun i H x H' hi h y => by
    obtain ⟨e, y⟩ := y
    have := y xs h
    refine ⟨e, ?_⟩
    show [xs.getD i V.non] = [x]
    rw [List.getD_eq_getElem?_getD, this]
    rfl
  stop := fun H h => ⟨xs, h, Nat.le_refl _⟩
theorem fx_tup {K : PySem.W.Frag} (a : Addr) (xs : List V) : Fx K .one (Itt K a) xs.length (fun i => [xs.getD i .non]) (fun H => SqT K H a xs) where
  go := fun i H hi h => ⟨xs, xs[i], h, by simp [hi]⟩
  yld := fun i H x H' hi h y => by
    obtain ⟨e, y⟩ := y
    have := y xs h
    refine ⟨e, ?_⟩
    show [xs.getD i V.non] = [x]
    rw [List.getD_eq_getElem?_getD, this]
    rfl
  stop := fun H h => ⟨xs, h, Nat.le_refl _⟩
section
variable {K : PySem.W.Frag} {T : Tgt} {J : It} {n : Nat} {vs : Nat → List V} {G : Hp → Prop} {ts : TT} {te : TE} {fs : St} {H1 : Hp} {D : Addr} {done : Hp → Prop}
theorem blk_inv (F : Fx K T J n vs G) (Pv : Nat → List V → Hp → Prop) (h0 : Pv 0 [] (upd H1 D (.lst []))) (hG : ∀ i acc H, i ≤ n → Pv i acc H → G H) (hD : ∀ i acc H, i ≤ n → Pv i acc H → H D = some (.lst acc) ∧ acc.length ≤ i) (hn : n ≤ sizeLine)
    (step : ∀ i acc H, i < n → Pv i acc H → ∀ (QY : V → Hp → Prop) (QN : Hp → Prop), (∀ y H3, H3 D = some (.lst acc) → Pv (i + 1) (acc ++ [y]) (upd H3 D (.lst (acc ++ [y]))) → QY y H3) → (∀ H2, Pv (i + 1) acc H2 → QN H2) →
      ts ((vs i).map some ++ fs) H fun b H2 => if b = true then te ((vs i).map some ++ fs) H2 QY else QN H2)
    (fin : ∀ acc H, Pv n acc H → done H) : tBlk K T ts (tAppend D te) fs J (upd H1 D (.lst [])) done := by
  refine ⟨fun i m H => i ≤ n ∧ m = n - i ∧ ∃ acc, Pv i acc H, ⟨n, Nat.zero_le _, rfl, [], h0⟩, ?_⟩
  rintro i m H ⟨hi, rfl, acc, p⟩
  have g := hG i acc H hi p
  by_cases hlt : i < n
  · refine .inr ⟨F.go i H hlt g, fun x H' y => ?_⟩
    obtain ⟨e, tv⟩ := F.yld i H x H' hlt g y
    subst e
    refine ⟨vs i, tv, ?_⟩
    exact step i acc H' hlt p _ _ (fun y H3 hd p3 => ⟨acc, hd, by have := (hD i acc H' hi p).2; omega, n - (i + 1), by omega, by omega, rfl, _, p3⟩) (fun H2 p2 => ⟨n - (i + 1), by omega, by omega, rfl, _, p2⟩)
  · have e : i = n := by omega
    subst e
    exact .inl ⟨F.stop H g, fin acc H p⟩
/-- a body that changes nothing that was there -/
theorem blk_pure (F : Fx K T J n vs G) (p : Nat → Bool) (g : Nat → V) (hn : n ≤ sizeLine) (hD : H1 D = none) (hG : ∀ H, Same H1 H → G H)
    (step : ∀ i H, i < n → Same H1 H → ∀ (QY : V → Hp → Prop) (QN : Hp → Prop), (p i = true → ∀ H3, Same H H3 → QY (g i) H3) → (p i = false → ∀ H2, Same H H2 → QN H2) →
      ts ((vs i).map some ++ fs) H fun b H2 => if b = true then te ((vs i).map some ++ fs) H2 QY else QN H2)
    (fin : ∀ H, Same H1 H → H D = some (.lst (((List.range n).filter p).map g)) → done H) : tBlk K T ts (tAppend D te) fs J (upd H1 D (.lst [])) done := by
  refine blk_inv F (fun i acc H => Same H1 H ∧ H D = some (.lst acc) ∧ acc = ((List.range i).filter p).map g) ⟨fun b o e => by rw [upd_ne (ne_of_none e hD)]; exact e, upd_same, rfl⟩ (fun i acc H _ h => hG H h.1)
    (fun i acc H _ h => ⟨h.2.1, by rw [h.2.2, List.length_map]; exact Nat.le_trans (List.length_filter_le _ _) (by simp)⟩) hn (fun i acc H hi ⟨h1, h2, h3⟩ QY QN qy qn => ?_) (fun acc H ⟨h1, h2, h3⟩ => fin H h1 (h3 ▸ h2))
  have e1 : ((List.range (i + 1)).filter p) = (List.range i).filter p ++ if p i then [i] else [] := by
    rw [List.range_succ, List.filter_append]
    by_cases hp : p i <;> simp [hp]
  refine step i H hi h1 QY QN (fun hp H3 s3 => qy _ _ (s3 _ _ h2) ⟨fun b o e => ?_, upd_same, ?_⟩) (fun hp H2 s2 => qn _ ⟨h1.trans s2, s2 _ _ h2, ?_⟩)
  · rw [upd_ne (ne_of_none e hD)]
    exact s3 _ _ (h1 _ _ e)
  · rw [e1, hp, h3]
    simp
  · rw [e1, hp, h3]
    simp
end
end L2

namespace L2
open PySem PySem.Spec PyProof.Rows
theorem iteB {b : Bool} {A B : Prop} (h1 : b = true → A) (h2 : b = false → B) : if b = true then A else B := by
  cases b with
  | true => exact iteT (h1 rfl)
  | false => exact iteF (h2 rfl)
theorem le_line {n m : Nat} (h : n ≤ m) (hm : m ≤ 16777216 := by decide) : n ≤ sizeLine := by rw [sizeLine_eq]; omega
section
variable {K : PySem.W.Frag} {T : Tgt} {J : It} {n : Nat} {vs : Nat → List V} {G : Hp → Prop} {te : TE} {fs : St} {H1 : Hp} {D : Addr} {done : Hp → Prop}
/-- no test: an invariant -/
theorem blk_invm (F : Fx K T J n vs G) (Pv : Nat → List V → Hp → Prop) (h0 : Pv 0 [] (upd H1 D (.lst []))) (hG : ∀ i acc H, i ≤ n → Pv i acc H → G H) (hD : ∀ i acc H, i ≤ n → Pv i acc H → H D = some (.lst acc) ∧ acc.length ≤ i) (hn : n ≤ sizeLine)
    (step : ∀ i acc H, i < n → Pv i acc H → ∀ (QY : V → Hp → Prop), (∀ y H3, H3 D = some (.lst acc) → Pv (i + 1) (acc ++ [y]) (upd H3 D (.lst (acc ++ [y]))) → QY y H3) → te ((vs i).map some ++ fs) H QY)
    (fin : ∀ acc H, Pv n acc H → done H) : tBlk K T tAll (tAppend D te) fs J (upd H1 D (.lst [])) done :=
  blk_inv F Pv h0 hG hD hn (fun i acc H hi p QY QN qy _ => (show if true = true then te ((vs i).map some ++ fs) H QY else QN H from iteT (step i acc H hi p QY qy))) fin
/-- no test, a body that changes nothing that was there -/
theorem blk_map (F : Fx K T J n vs G) (g : Nat → V) (hn : n ≤ sizeLine) (hD : H1 D = none) (hG : ∀ H, Same H1 H → G H)
    (step : ∀ i H, i < n → Same H1 H → ∀ (QY : V → Hp → Prop), (∀ H3, Same H H3 → QY (g i) H3) → te ((vs i).map some ++ fs) H QY)
    (fin : ∀ H, Same H1 H → H D = some (.lst ((List.range n).map g)) → done H) : tBlk K T tAll (tAppend D te) fs J (upd H1 D (.lst [])) done := by
  refine blk_invm F (fun i acc H => Same H1 H ∧ H D = some (.lst acc) ∧ acc = (List.range i).map g) ⟨fun b o e => by rw [upd_ne (ne_of_none e hD)]; exact e, upd_same, rfl⟩ (fun i acc H _ h => hG H h.1)
    (fun i acc H _ h => ⟨h.2.1, by rw [h.2.2]; simp⟩) hn (fun i acc H hi ⟨h1, h2, h3⟩ QY qy => ?_) (fun acc H ⟨h1, h2, h3⟩ => fin H h1 (h3 ▸ h2))
  refine step i H hi h1 QY fun H3 s3 => qy _ _ (s3 _ _ h2) ⟨fun b o e => ?_, upd_same, ?_⟩
  · rw [upd_ne (ne_of_none e hD)]
    exact s3 _ _ (h1 _ _ e)
  · rw [List.range_succ, List.map_append, h3]
    rfl
end
section
variable {X : Cx}
theorem MtM.r {id : String} {r : V → List V → Hp → VK → Prop} (h : MtM X id r) : MtR X id r := h
theorem op_isnot_bool : OpR X (compareOp .IsNot) (fun x y H Q => ∃ a b, x = .bl a ∧ y = .bl b ∧ Q (.bl (a != b)) H) := by
  intro pins s σ H x y v u Q I rx ry h
  obtain ⟨a, b, rfl, rfl, q⟩ := h
  cases rx
  cases ry
  exact isnot_bool (fin_bl I q rfl)
end
/-- all but p is as it was -/
def Ext (p : Addr) (H H' : Hp) : Prop := ∀ b o, H b = some o → b ≠ p → H' b = some o
theorem Ext.refl (p : Addr) (H : Hp) : Ext p H H := fun _ _ h _ => h
theorem Ext.trans {p : Addr} {H H1 H2 : Hp} (a : Ext p H H1) (b : Ext p H1 H2) : Ext p H H2 := fun c o h hc => b c o (a c o h hc) hc
theorem Same.ext {p : Addr} {H H' : Hp} (s : Same H H') : Ext p H H' := fun b o h _ => s b o h
theorem Ext.upd {p : Addr} {H : Hp} {o : HO} : Ext p H (upd H p o) := fun b u h hb => by rw [upd_ne hb]; exact h
theorem Same.upd {p : Addr} {H : Hp} {o : HO} (h : H p = none) : Same H (L2.upd H p o) := fun b u e => by rw [upd_ne (ne_of_none e h)]; exact e
end L2

namespace L2
open PySem PySem.Spec PyProof.Rows
theorem eval_DictComp {env : Env} (kx vx gens scope pos) : eval (.DictComp kx vx gens scope pos) env = comprehension (.DictComp kx vx gens scope pos) scope env (firstIterPos gens pos) newDict (firstAsync gens) (firstIter gens env) := rfl
def tPut (D : Addr) (tk tv : TE) : TM := fun σ H Q => tk σ H fun y H1 => tv σ H1 fun z H2 => ∃ kvs k, H2 D = some (.dK kvs) ∧ y = kV k ∧ kvs.length < sizeLine ∧ Q (upd H2 D (.dK (putK kvs k z)))
theorem pm_put {X : Cx} {D : Addr} {kx vx : Expr} {tk tv : TE} (hu : X.A.units + 1 < cLine) (hk : PE X kx tk) (hv : PE X vx tv) : PM X (do
            let kv ← eval kx X.env
            let vv ← holding [kv] (eval vx X.env)
            standAt { kx.pos with endLine := vx.pos.endLine, endCol := vx.pos.endCol }
            holding [kv, vv] (dictSet D kv vv)) (tPut D tk tv) := by
  intro pins s σ H Q I h
  refine wpAny_bind (thn (hk pins s σ H _ I h) fun kv s1 ⟨y, H1, I1, r1, q1⟩ => ?_)
  refine wpAny_bind (wpAny_holding (thn (hv pins s1 σ H1 _ I1 q1) fun vv s2 ⟨z, H2, I2, r2, kvs, k, hD, ey, hl, q2⟩ => ?_))
  subst ey
  refine wpAny_bind (wpAny_standAt (wpAny_holding ?_))
  obtain ⟨z1, hd, vs, rel, dd⟩ := dk_of I2.hok hD
  have hz : vs.length ≤ sizeLine := by rw [← rel.length]; exact z1
  have hl2 : (putK kvs k z).length ≤ sizeLine := by have := length_putK kvs k z; omega
  refine wpAny_dictSet_pairs (hsz := hz) (kV_is r1) dd fun h' dd' hs => ⟨_, ?_, q2⟩
  have he : ∃ q, h'.get? D = some q := let ⟨q, _, _, hq, _⟩ := dd'; ⟨q, hq⟩
  exact d_write I2 (by rw [hD]; exact True.intro) hs he (dk_new hl2 hd (rel.put k r2) dd')
section
variable {X : Cx} {NT NF : List Str} {js : List Nat} {elt kx vx tg iter e : Expr} {ifs : List Expr} {T : Tgt} {wi : TI} {ts : Bk → TT} {te tk' tv : Bk → TE} {scope : Scope} {pos : Pos}
def tDC (K : PySem.W.Frag) (wi : TI) (T : Tgt) (ts : Bk → TT) (tk' tv : Bk → TE) (js : List Nat) : TE := fun σ H Q => wi σ H fun J H1 => ∀ D, H1 D = none → ∀ b, tBlk K T (ts b) (tPut D (tk' b) (tv b)) (frees js σ) J (upd H1 D (.dK [])) (Q (.ref D))

/-- the list's block from its start on; R as the comprehension's end wants it -/
theorem dc_run {pins : List (Addr × Obj)} {σ : St} {s2 : Shared} {H2 : Hp} {cl : List (Str × Addr)} {it : Addr} {fp : List Addr} {tn : Nat → Heap → Prop} {J : It} {Q : Hp → Prop} {RR : Value → Addr → Result → Shared → Prop} {E : Value → Shared → Prop}
    (B : BlkOk X NT NF js scope) (tk : TgOk tg NT T) (hc : X.calm = true) (hu : X.A.units + 1 < cLine)
    (hin : ∀ b, PTs (X.bk (NT ++ NF) scope b) ifs (ts b) ∧ PE (X.bk (NT ++ NF) scope b) kx (tk' b) ∧ PE (X.bk (NT ++ NF) scope b) vx (tv b))
    (q2 : ∀ n c, cl.lookup n = some c → X.env.cells.lookup n = some c) (q3 : ∀ y ∈ scope.names, y.2 = .free → ∃ c, cl.lookup y.1 = some c)
    (I2 : Inv X pins σ H2 s2) (TT : Turn X.prog X.w X.K tg J fp it tn) (st2 : tn 0 s2.heap) (f2 : ∀ b ∈ fp, FpOk X pins H2 b)
    (q : ∀ b, tBlk X.K T (ts b) (tPut s2.heap.objs.size (tk' b) (tv b)) (frees js σ) J (upd H2 s2.heap.objs.size (.dK [])) Q)
    (hR : ∀ C H' s' m, Inv X pins σ H' s' → FpOk X pins H' C → s'.heap.Ns C m → Q H' → RR (.ref s2.heap.objs.size) C (.ok .next) s') :
    wpAny (model X.prog X.w) X.A (newDict) (fun acc s₃ => wpAny (model X.prog X.w) X.A (newFunctionEnv scope X.env.globals cl [] X.env.qual none .none (some X.env)) (fun cenv s₄ =>
      codeAny (model X.prog X.w) X.A (.compStart (.DictComp kx vx [⟨tg, iter, ifs, 0⟩] scope pos) 0 (.ref it) acc { cenv with scope := relabel scope X.env }) (RR acc cenv.locals) s₄) E s₃) E s2 := by
  refine wpAny_newObj_type ?_
  have hD : H2 s2.heap.objs.size = none := I2.hok.fresh (Nat.le_refl _)
  have I3 : Inv X pins σ (upd H2 s2.heap.objs.size (.dK [])) { s2 with heap := s2.heap.push { cls := .type "dict", dict := none, data := .dict #[] } } :=
    I2.laid (t' := s2.toks) (fun b o e => Heap.get?_push_of_some _ e) (Nat.le_refl _) (dk_empty s2.heap I2.big)
  have hsz : (s2.heap.push { cls := .type "dict", dict := none, data := .dict #[] }).objs.size = s2.heap.objs.size + 1 := Heap.size_push ..
  refine wpAny_newFunctionEnv B.cell (by intro y hy; simp at hy) (fun h₁ hns₁ hsb₁ => ?_) B.kind
  have lt2 : ∀ b ∈ fp, b < s2.heap.objs.size := fun b hb => by
    obtain ⟨o, e, _⟩ := TT.obj 0 _ st2 b hb
    exact Heap.lt_size e
  have f3 : ∀ b ∈ fp, FpOk X pins (upd H2 s2.heap.objs.size (.dK [])) b := fun b hb => ⟨by rw [upd_ne (Nat.ne_of_lt (lt2 b hb))]; exact (f2 b hb).1, (f2 b hb).2⟩
  have keep : ∀ b o, (s2.heap.push { cls := .type "dict", dict := none, data := .dict #[] }).get? b = some o → h₁.get? b = some o := fun b o e =>
    hsb₁.extBut b o (Nat.ne_of_lt (Heap.lt_size e)) (Heap.get?_push_of_some _ e)
  have lt3 : ∀ b ∈ fp, b < (s2.heap.push { cls := .type "dict", dict := none, data := .dict #[] }).objs.size := fun b hb => by have := lt2 b hb; rw [hsz]; exact Nat.lt_succ_of_lt this
  have I4 := I3.blk (s1 := { s2 with heap := h₁, toks := s2.toks + ([] : List (Str × Value)).length }) B q2 q3 f3 lt3 hns₁ keep rfl I2.bare
  have st4 : tn 0 h₁ := TT.keep 0 _ _ st2 fun b _ o e => keep b o (Heap.get?_push_of_some _ e)
  obtain ⟨i1, i2, i3⟩ := hin ⟨cl, (s2.heap.push { cls := .type "dict", dict := none, data := .dict #[] }).objs.size, { s2 with heap := s2.heap.push { cls := .type "dict", dict := none, data := .dict #[] } }, upd H2 s2.heap.objs.size (.dK []), fp⟩
  have loop : codeAny (model X.prog X.w) X.A (.compLoop (.DictComp kx vx [⟨tg, iter, ifs, 0⟩] scope pos) 0 (.ref it) (.ref s2.heap.objs.size) (compEnvC scope cl (s2.heap.push { cls := .type "dict", dict := none, data := .dict #[] }).objs.size X.env))
      (RR (.ref s2.heap.objs.size) (s2.heap.push { cls := .type "dict", dict := none, data := .dict #[] }).objs.size) { s2 with heap := h₁, toks := s2.toks + ([] : List (Str × Value)).length } := by
    refine blk_loop (X := X.blk (NT ++ NF) scope cl (s2.heap.push { cls := .type "dict", dict := none, data := .dict #[] }).objs.size { s2 with heap := s2.heap.push { cls := .type "dict", dict := none, data := .dict #[] } } (upd H2 s2.heap.objs.size (.dK [])) fp)
      (T := T) (fs := frees js σ) (done := Q) rfl (turn_dict' kx vx tg iter ifs scope pos _ _ _) rfl rfl rfl tk rfl B.nd hc (fun x hx => lookup_relabel_local (B.tg x hx)) i1 (pm_put hu i2 i3) TT (fun b hb => ?_) I4 st4 (q _) fun H' s' σ' J' qd => ?_
    · exact ⟨(f3 b hb).1, Nat.ne_of_lt (lt3 b hb), fun hb2 => by
        rcases List.mem_cons.mp (I3.stkSub b hb2) with z | z
        · exact (f3 b hb).2.1 z
        · exact (f3 b hb).2.2.1 z, .inl hb, fun x c e => (f3 b hb).2.2.2.2.1 x c (q2 x c e), fun p hp => (nomatch (show p ∈ ([] : List (Addr × Obj)) from hp))⟩
    · obtain ⟨m, hn, _⟩ := J'.loc
      exact hR _ H' s' m (I3.unblk f3 J') (I3.fpOk (Nat.le_refl _) J'.free) hn qd
  exact codeAny_compStart_dict loop (TT.self _ 0 _ _ _ st4 loop)

theorem pe_dc (B : BlkOk X NT NF js scope) (tk : TgOk tg NT T) (hc : X.calm = true) (hu : X.A.units + 1 < cLine) (hi : PI X tg iter wi)
    (hin : ∀ b, PTs (X.bk (NT ++ NF) scope b) ifs (ts b) ∧ PE (X.bk (NT ++ NF) scope b) kx (tk' b) ∧ PE (X.bk (NT ++ NF) scope b) vx (tv b))
    (hs : ∀ x, foldedSetIterable iter X.env x = pure x := by intro _; rfl) : PE X (.DictComp kx vx [⟨tg, iter, ifs, 0⟩] scope pos) (tDC X.K wi T ts tk' tv js) := by
  intro pins s σ H Q I h
  obtain ⟨cl, hclos, q2, q3⟩ := closure_of (env := X.env) (scope := scope) fun y hy e => I.ok.has y.1 (B.free y hy e)
  rw [eval_DictComp]
  refine wpAny_comprehension_free (use := none) rfl hs hclos B.kind B.names (thn (hi pins s σ H _ I h) fun v s1 h1 => thn h1 fun itv s2 ⟨it, fp, tn, J, H2, e, I2, TT, st2, f2, q⟩ => ?_)
  subst e
  refine dc_run (hu := hu) (Q := fun H' => Q (.ref s2.heap.objs.size) H') (RR := fun acc C => compPost (model X.prog X.w) X.A X.xe none (EP X pins σ Q) acc C) B tk hc (hin := hin) q2 q3 I2 TT st2 f2 (q _ (I2.hok.fresh (Nat.le_refl _))) fun C H' s' m I' fC hn qd => ?_
  refine ⟨m, hn, fun h' sb => ⟨.ref s2.heap.objs.size, H', ?_, rfl, qd⟩⟩
  exact I'.turned (t' := s'.toks) (fun b o hb e => (sb.2 b hb).trans e) fC.1 fC.2.1 fC.2.2.2.1 fC.2.2.2.2.1 fC.2.2.2.2.2

end
end L2

namespace L2
open PySem PySem.Spec PyProof.Rows
section
variable {X : Cx}
/-- xs != [] -/
theorem op_ne_nil (hu : X.A.units < cLine) : OpR X (compareOp .NotEq) (fun x y H Q => ∃ a b xs, x = .ref a ∧ y = .ref b ∧ SqL X.K H a xs ∧ SqL X.K H b [] ∧ Q (.bl (!xs.isEmpty)) H) := by
  intro pins s σ H x y v u Q I rx ry h
  obtain ⟨a, b, xs, rfl, rfl, ha, hb, q⟩ := h
  cases rx
  cases ry
  obtain ⟨its, r1, p1, _⟩ := I.list ha
  obtain ⟨its2, r2, p2, _⟩ := I.list hb
  cases r2
  cases xs with
  | nil =>
    cases r1
    exact SeqAt.RcNeAt.lists p1.isList p2.isList rfl hu (e := fun _ => true) (fun j h1 => absurd h1 (by simp)) _ _ _ _ (fin_bl I q rfl)
  | cons x xs =>
    cases r1 with
    | cons r rr => exact SeqAt.RcNeAt.lists_lengths p1.isList p2.isList (by simp) hu _ _ _ _ (fin_bl I q rfl)
end
/-- what a turn of an iterator may lay beside -/
structure Fy (K : PySem.W.Frag) (T : Tgt) (J : It) (n : Nat) (vs : Nat → List V) (G : Hp → Prop) : Prop where
  go : ∀ i H, i < n → G H → J.go i H
  yld : ∀ i H x H', i < n → G H → J.yld i H x H' → Same H H' ∧ tgV K T x H' (vs i)
  stop : ∀ H, G H → J.stop n H
theorem Fx.y {K : PySem.W.Frag} {T : Tgt} {J : It} {n : Nat} {vs : Nat → List V} {G : Hp → Prop} (F : Fx K T J n vs G) : Fy K T J n vs G where
  go := F.go
  yld := fun i H x H' hi g y => by
    obtain ⟨e, t⟩ := F.yld i H x H' hi g y
    subst e
    exact ⟨Same.refl _, t⟩
  stop := F.stop
section
variable {K : PySem.W.Frag} {T : Tgt} {J : It} {n : Nat} {vs : Nat → List V} {G : Hp → Prop} {ts : TT} {te : TE} {fs : St} {H1 : Hp} {D : Addr} {done : Hp → Prop}
theorem blk_invY (F : Fy K T J n vs G) (Pv : Nat → List V → Hp → Prop) (h0 : Pv 0 [] (upd H1 D (.lst []))) (hS : ∀ i acc H H', Pv i acc H → Same H H' → Pv i acc H') (hG : ∀ i acc H, i ≤ n → Pv i acc H → G H) (hD : ∀ i acc H, i ≤ n → Pv i acc H → H D = some (.lst acc) ∧ acc.length ≤ i) (hn : n ≤ sizeLine)
    (step : ∀ i acc H, i < n → Pv i acc H → ∀ (QY : V → Hp → Prop) (QN : Hp → Prop), (∀ y H3, H3 D = some (.lst acc) → Pv (i + 1) (acc ++ [y]) (upd H3 D (.lst (acc ++ [y]))) → QY y H3) → (∀ H2, Pv (i + 1) acc H2 → QN H2) →
      ts ((vs i).map some ++ fs) H fun b H2 => if b = true then te ((vs i).map some ++ fs) H2 QY else QN H2)
    (fin : ∀ acc H, Pv n acc H → done H) : tBlk K T ts (tAppend D te) fs J (upd H1 D (.lst [])) done := by
  refine ⟨fun i m H => i ≤ n ∧ m = n - i ∧ ∃ acc, Pv i acc H, ⟨n, Nat.zero_le _, rfl, [], h0⟩, ?_⟩
  rintro i m H ⟨hi, rfl, acc, p⟩
  have g := hG i acc H hi p
  by_cases hlt : i < n
  · refine .inr ⟨F.go i H hlt g, fun x H' y => ?_⟩
    obtain ⟨e, tv⟩ := F.yld i H x H' hlt g y
    have p' := hS i acc H H' p e
    refine ⟨vs i, tv, ?_⟩
    exact step i acc H' hlt p' _ _ (fun y H3 hd p3 => ⟨acc, hd, by have := (hD i acc H' hi p').2; omega, n - (i + 1), by omega, by omega, rfl, _, p3⟩) (fun H2 p2 => ⟨n - (i + 1), by omega, by omega, rfl, _, p2⟩)
  · have e : i = n := by omega
    subst e
    exact .inl ⟨F.stop H g, fin acc H p⟩
theorem blk_mapY (F : Fy K T J n vs G) (g : Nat → V) (hn : n ≤ sizeLine) (hD : H1 D = none) (hG : ∀ H, Same H1 H → G H)
    (step : ∀ i H, i < n → Same H1 H → ∀ (QY : V → Hp → Prop), (∀ H3, Same H H3 → QY (g i) H3) → te ((vs i).map some ++ fs) H QY)
    (fin : ∀ H, Same H1 H → H D = some (.lst ((List.range n).map g)) → done H) : tBlk K T tAll (tAppend D te) fs J (upd H1 D (.lst [])) done := by
  refine blk_invY F (fun i acc H => Same H1 H ∧ H D = some (.lst acc) ∧ acc = (List.range i).map g) ⟨fun b o e => by rw [upd_ne (ne_of_none e hD)]; exact e, upd_same, rfl⟩ (fun i acc H H' h s => ⟨h.1.trans s, s _ _ h.2.1, h.2.2⟩) (fun i acc H _ h => hG H h.1)
    (fun i acc H _ h => ⟨h.2.1, by rw [h.2.2]; simp⟩) hn (fun i acc H hi ⟨h1, h2, h3⟩ QY QN qy _ => ?_) (fun acc H ⟨h1, h2, h3⟩ => fin H h1 (h3 ▸ h2))
  show if true = true then te ((vs i).map some ++ fs) H QY else QN H
  refine iteT (step i H hi h1 QY fun H3 s3 => qy _ _ (s3 _ _ h2) ⟨fun b o e => ?_, upd_same, ?_⟩)
  · rw [upd_ne (ne_of_none e hD)]
    exact s3 _ _ (h1 _ _ e)
  · rw [List.range_succ, List.map_append, h3]
    rfl
end
/-! ### zip of two lists -/
/-- several records of ours have turned, and something may have been laid -/
theorem Inv.turnedL {X : Cx} {pins : List (Addr × Obj)} {σ : St} {H H' : Hp} {s : Shared} {h' : Heap} {t' : Nat} {ch : List Addr} (I : Inv X pins σ H s) (k : ∀ b o, b ∉ ch → s.heap.get? b = some o → h'.get? b = some o) (hf : ∀ b ∈ ch, FpOk X pins H b)
    (hs : Same H H') (hfr : ∀ b o, s.heap.get? b = some o → H b = none → H' b = none) (hn : ∀ b u, H' b = some u → H b = some u ∨ ObjOk X.prog X.w H' h' b u) : Inv X pins σ H' { s with heap := h', toks := t' } := by
  have nit : ∀ b u, H b = some u → b ∉ ch := fun b u e z => by rw [(hf b z).1] at e; cases e
  refine I.step (g' := s.gens) (d' := s.drawn) (ch := ch) (fun b hb => ⟨(hf b hb).2.2.2.1, (hf b hb).2.1, (hf b hb).2.2.2.2.1, (hf b hb).2.2.2.2.2⟩) (fun b o _ _ hc e _ => k b o hc e) (fun b o _ _ hc e _ => ⟨o.slots, k b o hc e⟩) (fun b o _ e n => hfr b o e n)
    (fun b o hc e => ⟨o, k b o hc e⟩) (fun _ _ e => hs _ _ e) (fun _ _ _ e => hs _ _ e) (fun b ps e => ⟨#[], by rw [hs _ _ e]; simp⟩) (fun m hm => ?_) (fun b u e => ?_) I.bare
  · obtain ⟨o, es, ep, ho, r⟩ := hm
    exact ⟨o, es, ep, k _ o (fun z => (hf _ z).2.1 rfl) ho, r⟩
  · rcases hn b u e with z | z
    · refine (I.hok b u z).stay (fun c v hc q => k c v ?_ q) (fun _ q => hs _ _ q) fun _ _ q => hs _ _ q
      rcases hc with y | y
      · rw [y]; exact nit b u z
      · exact nit c _ y
    · exact z
def Itz (K : PySem.W.Frag) (a b : Addr) : It := ⟨fun i H => ∃ xs ys, SqL K H a xs ∧ SqL K H b ys ∧ i < min xs.length ys.length,
  fun i H v H' => ∃ p x y, H p = none ∧ v = .ref p ∧ H' = upd H p (.tup [x, y]) ∧ ∀ xs ys, SqL K H a xs → SqL K H b ys → xs[i]? = some x ∧ ys[i]? = some y,
  fun i H => ∃ xs ys, SqL K H a xs ∧ SqL K H b ys ∧ i = min xs.length ys.length⟩
theorem turn_zip {P : Program} {w : World} {K : PySem.W.Frag} {es : List Expr} {k : Nat} {ps : Pos} {a b z TI TO i1 i2 : Addr} (D : ZipApart z TI TO i1 i2 a b) :
    Turn P w K (.Tuple es k ps) (Itz K a b) [z, TI, TO, i1, i2] z (fun i h => IsZip h z TI TO .none ∧ IsPair h TI (.ref i1) (.ref i2) ∧ (∃ c d, IsPair h TO c d) ∧ h.IsListIter i1 a i ∧ h.IsListIter i2 b i) where
  mem := by simp
  obj := fun i h st c hc => by
    obtain ⟨h1, h2, ⟨_, _, h3⟩, ⟨o4, e4, _, d4⟩, ⟨o5, e5, _, d5⟩⟩ := st
    simp only [List.mem_cons, List.not_mem_nil, or_false] at hc
    rcases hc with rfl | rfl | rfl | rfl | rfl
    · exact ⟨_, h1, fun v q => by cases q⟩
    · exact ⟨_, h2, fun v q => by cases q⟩
    · exact ⟨_, h3, fun v q => by cases q⟩
    · exact ⟨_, e4, fun v q => by rw [d4] at q; cases q⟩
    · exact ⟨_, e5, fun v q => by rw [d5] at q; cases q⟩
  keep := fun i h h' st kk => by
    obtain ⟨h1, h2, ⟨c, d, h3⟩, h4, h5⟩ := st
    exact ⟨kk z (by simp) _ h1, kk TI (by simp) _ h2, ⟨c, d, kk TO (by simp) _ h3⟩, h4.at fun o e => kk i1 (by simp) o e, h5.at fun o e => kk i2 (by simp) o e⟩
  item := by
    intro X hP hw hK hc i pins s σ H E I hf st hg
    subst hP hw hK
    obtain ⟨xs, ys, ha, hb, hi⟩ := hg
    obtain ⟨its, r1, p1, _⟩ := I.list ha
    obtain ⟨its2, r2, p2, _⟩ := I.list hb
    have l1 := r1.length
    have l2 := r2.length
    have W := WalksT.zip2 (prog := X.prog) (w := X.w) (A := X.A) (I.ok.hd hc) z TI TO i1 i2 a b D its.toArray its2.toArray
    obtain ⟨s1, s2, s3, s4, s5⟩ := st
    refine W.item i s _ E (by simp; omega) ⟨s1, s2, s3, s4, s5, p1.isList, p2.isList⟩ fun T vals h' tk hv hT ht hm kk => ?_
    obtain ⟨x, y, hx, hy, rfl⟩ := hv
    refine ⟨_, rfl, W.go es k ps i T _ _ E hm fun h2 st2 kk2 => ?_⟩
    have gx : xs[i]? = some (xs.getD i .non) := by
      have : i < xs.length := by omega
      simp [List.getD, this]
    have gy : ys[i]? = some (ys.getD i .non) := by
      have : i < ys.length := by omega
      simp [List.getD, this]
    obtain ⟨u1, hu1, q1⟩ := r1.get gx
    obtain ⟨u2, hu2, q2⟩ := r2.get gy
    have ex : u1 = x := by
      have : its[i]? = some x := by simpa using hx
      rw [hu1] at this
      exact Option.some.inj this
    have ey : u2 = y := by
      have : its2[i]? = some y := by simpa using hy
      rw [hu2] at this
      exact Option.some.inj this
    subst ex ey
    have wf : ∀ c, c ∈ [z, TO, i1, i2] → FpOk X pins H c := fun c hc => hf c (by simp at hc ⊢; rcases hc with rfl | rfl | rfl | rfl <;> simp)
    have hTn : H T = none := I.hok.fresh hT
    have nT : T ∉ [z, TO, i1, i2] := W.apart i T _ hm
    have kT : h2.get? T = h'.get? T := by
      obtain ⟨o, e, _⟩ := id ht
      rw [kk2 T o nT e]
      exact e.symm
    obtain ⟨oT, eT, cT, nT', dT⟩ := id ht
    refine ⟨.ref T, upd H T (.tup [xs.getD i .non, ys.getD i .non]), I.turnedL (fun c o hc e => kk2 c o hc (kk c o hc e)) wf (Same.upd hTn) (fun c o e n => ?_) (fun c u e => ?_), rfl, ⟨T, _, _, hTn, rfl, rfl, fun xs' ys' h1 h2 => ?_⟩, ?_, fun c hc => ?_⟩
    · rw [upd_ne]
      · exact n
      · intro z
        subst z
        exact absurd (Heap.lt_size e) (Nat.not_lt.mpr hT)
    · by_cases hcT : c = T
      · subst hcT
        rw [upd_same] at e
        cases e
        refine .inr ⟨by show 2 ≤ sizeLine; decide, [u1, u2], .cons q1 (.cons q2 .nil), oT, kT.trans eT, cT, nT', by simpa using dT⟩
      · rw [upd_ne hcT] at e
        exact .inl e
    · rw [I.list_inj h1 ha, I.list_inj h2 hb]
      exact ⟨gx, gy⟩
    · exact ⟨st2.1, st2.2.1, st2.2.2.1, st2.2.2.2.1, st2.2.2.2.2.1⟩
    · rw [upd_ne]
      · exact (hf c hc).1
      · intro z
        subst z
        obtain ⟨o, e, _⟩ : ∃ o, s.heap.get? c = some o ∧ True := by
          simp only [List.mem_cons, List.not_mem_nil, or_false] at hc
          obtain ⟨c1, d1, s3⟩ := s3
          obtain ⟨o4, e4, _⟩ := s4
          obtain ⟨o5, e5, _⟩ := s5
          rcases hc with rfl | rfl | rfl | rfl | rfl
          · exact ⟨_, s1, trivial⟩
          · exact ⟨_, s2, trivial⟩
          · exact ⟨_, s3, trivial⟩
          · exact ⟨_, e4, trivial⟩
          · exact ⟨_, e5, trivial⟩
        exact absurd (Heap.lt_size e) (Nat.not_lt.mpr hT)
  done := by
    intro X hP hw hK hc i pins s σ H E I hf st hg
    subst hP hw hK
    obtain ⟨xs, ys, ha, hb, hi⟩ := hg
    obtain ⟨its, r1, p1, _⟩ := I.list ha
    obtain ⟨its2, r2, p2, _⟩ := I.list hb
    have l1 := r1.length
    have l2 := r2.length
    have W := WalksT.zip2 (prog := X.prog) (w := X.w) (A := X.A) (I.ok.hd hc) z TI TO i1 i2 a b D its.toArray its2.toArray
    obtain ⟨s1, s2, s3, s4, s5⟩ := st
    have e : i = min its.toArray.size its2.toArray.size := by simp; omega
    subst e
    refine W.done s _ E ⟨s1, s2, s3, s4, s5, p1.isList, p2.isList⟩ fun h' tk kk => ⟨rfl, ?_⟩
    have wf : ∀ c, c ∈ [z, TO, i1, i2] → FpOk X pins H c := fun c hc => hf c (by simp at hc ⊢; rcases hc with rfl | rfl | rfl | rfl <;> simp)
    exact I.turnedL kk wf (Same.refl H) (fun _ _ _ n => n) fun _ _ e => .inl e
  self := fun _ _ _ _ _ st h => wpAny_pyIter_zip st.1 h
def iZip (K : PySem.W.Frag) (t : TA) : TI := fun σ H R => t σ H fun vs H1 => ∃ a b xs ys, vs = [.ref a, .ref b] ∧ SqL K H1 a xs ∧ SqL K H1 b ys ∧ R (Itz K a b) H1
theorem pi_zip {X : Cx} {es : List Expr} {k : Nat} {ps : Pos} {x y : Expr} {t : TA} {p pos : Pos} (hg : Gl X "zip") (hm : X.mg "zip" = none) (ha : PA X [x, y] t) (hs : starEach [x, y] X.env = [(false, eval x X.env), (false, eval y X.env)] := by rfl) (hs2 : starEach [y] X.env = [(false, eval y X.env)] := by rfl) :
    PI X (.Tuple es k ps) (.Call (.Name "zip" p) [x, y] [] pos) (iZip X.K t) := by
  intro pins s σ H R I h
  refine Call_ (ld_blt I hg hm PyProof.Rows.boot_zip (PyProof.Rows.callWith_type1 (thn (ha pos pins s σ H _ I h) fun us s1 ⟨vs, H1, I1, r1, q1⟩ => ?_) (by rw [hs, hs2]) (by rw [hs2]; rfl)))
  obtain ⟨a, b, xs, ys, e, h1, h2, q⟩ := q1
  subst e
  cases r1 with
  | cons r rr =>
    cases rr with
    | cons r' rr =>
      cases rr
      cases r
      cases r'
      obtain ⟨its, v1, p1, _⟩ := I1.list h1
      obtain ⟨its2, v2, p2, _⟩ := I1.list h2
      have lt1 : a < s1.heap.objs.size := by obtain ⟨_, e, _⟩ := p1.isList; exact Heap.lt_size e
      have lt2 : b < s1.heap.objs.size := by obtain ⟨_, e, _⟩ := p2.isList; exact Heap.lt_size e
      refine call_zip_2 p1.isList p2.isList fun h' g1 g2 g3 g4 g5 hsz kk => ?_
      refine wpAny_pyIter_zip g1 ?_
      have I2 : Inv X pins σ H1 { s1 with heap := h' } := I1.kept (t' := s1.toks) kk
      refine ⟨s1.heap.objs.size + 4, [s1.heap.objs.size + 4, s1.heap.objs.size + 2, s1.heap.objs.size + 3, s1.heap.objs.size, s1.heap.objs.size + 1], _, _, H1, rfl, I2, turn_zip (zipApart_new lt1 lt2), ⟨g1, g2, ⟨_, _, g3⟩, g4, g5⟩, fun c hc => ?_, q⟩
      refine I1.fpOk ?_ (I1.hok.fresh ?_)
      all_goals
        simp only [List.mem_cons, List.not_mem_nil, or_false] at hc
        rcases hc with rfl | rfl | rfl | rfl | rfl <;> omega
theorem fy_zip {K : PySem.W.Frag} (a b : Addr) (xs ys : List V) : Fy K (.many 2) (Itz K a b) (min xs.length ys.length) (fun i => [xs.getD i .non, ys.getD i .non]) (fun H => SqL K H a xs ∧ SqL K H b ys) where
  go := fun i H hi h => ⟨xs, ys, h.1, h.2, hi⟩
  yld := fun i H x H' hi h y => by
    obtain ⟨p, u, v, hp, rfl, rfl, e⟩ := y
    obtain ⟨e1, e2⟩ := e xs ys h.1 h.2
    refine ⟨Same.upd hp, p, rfl, ?_, rfl⟩
    rw [List.getD_eq_getElem?_getD, List.getD_eq_getElem?_getD, e1, e2]
    exact SqT.of upd_same
  stop := fun H h => ⟨xs, ys, h.1, h.2, rfl⟩
end L2

set_option maxHeartbeats 4000000
namespace L2
open PySem PySem.Spec PyProof.Rows PySem.W
/-! ### what a sort's questions lead to -/
section
variable {N : Nat} {lt : Nat → Nat → Bool} {α β : Type}
def kgood (N : Nat) (lt : Nat → Nat → Bool) : KasT α → (α → Prop) → Prop
  | .ret a, R => R a
  | .ask i j k, R => i < N ∧ j < N ∧ kgood N lt (k (lt i j)) R
theorem kgood.mono {R S : α → Prop} : ∀ {t : KasT α}, kgood N lt t R → (∀ a, R a → S a) → kgood N lt t S
  | .ret a, h, f => f a h
  | .ask i j k, h, f => ⟨h.1, h.2.1, kgood.mono h.2.2 f⟩
theorem kgood.bind {f : α → KasT β} {R : β → Prop} : ∀ {t : KasT α}, kgood N lt t (fun a => kgood N lt (f a) R) → kgood N lt (t.bind f) R
  | .ret a, h => h
  | .ask i j k, h => ⟨h.1, h.2.1, kgood.bind h.2.2⟩
theorem kgood.wp {cmp : Nat → Nat → (Bool → Shared → Prop) → Shared → Prop} {R : α → Prop} {Q : α → Shared → Prop} {s : Shared} (ask : ∀ i j, i < N → j < N → ∀ C : Bool → Shared → Prop, C (lt i j) s → cmp i j C s) (q : ∀ a, R a → Q a s) : ∀ {t : KasT α}, kgood N lt t R → t.kasWp cmp Q s
  | .ret a, h => q a h
  | .ask i j k, h => ask i j h.1 h.2.1 _ (kgood.wp ask q h.2.2)
/-- an order of the places -/
def KP (N : Nat) (p : Array Nat) : Prop := p.toList.Perm (List.range N)
theorem KP.ix {p : Array Nat} (h : KP N p) (h0 : 0 < N) (i : Nat) : p.getD i 0 < N := by
  by_cases hi : i < p.size
  · have : p.getD i 0 ∈ p.toList := by simp [Array.getD, hi]
    exact List.mem_range.mp (h.mem_iff.mp this)
  · simpa [Array.getD, hi] using h0
theorem KP.rev {p : Array Nat} (h : KP N p) (i j : Nat) : KP N (kas_rev p i j) := ((mirror_perm p i j _).toList).trans h
theorem KP.bub {p : Array Nat} (h : KP N p) (i j : Nat) : KP N (bubble p i j) := ((bubble_perm p i j).toList).trans h
end
/-! ### the order of keys -/
def kLt : Key → Key → Bool
  | .inl i, .inl j => decide (i < j)
  | .inr x, .inr y => decide (x.cps.toList < y.cps.toList)
  | _, _ => false
def ksLt : List Key → List Key → Bool
  | a :: r, b :: t => if a = b then ksLt r t else kLt a b
  | _, _ => false
def kTy : Key → Bool
  | .inl _ => true
  | .inr _ => false
section
variable {prog : Program} {w : World} {A : Around} {E : Value → Shared → Prop} {s : Shared} {Q : Bool → Shared → Prop}
theorem one_keys {a b : Key} {u v : Value} {f : Bool} (ra : RelV (kV a) u) (rb : RelV (kV b) v) (ht : kTy a = kTy b) (h : Q (kLt a b) s) : wpAny (model prog w) A (oneLt' f u v) Q E s := by
  cases a with
  | inl i =>
    cases b with
    | inr y => cases ht
    | inl j =>
      obtain ⟨t, rfl⟩ := ra
      obtain ⟨t', rfl⟩ := rb
      cases f with
      | true => exact oneLt_int h
      | false => exact kat_one _ _ (lt_int h)
  | inr x =>
    cases b with
    | inl y => cases ht
    | inr y =>
      obtain ⟨t, rfl⟩ := ra
      obtain ⟨t', rfl⟩ := rb
      cases f with
      | true => exact oneLt_str h
      | false => exact kat_one _ _ (lt_str h)
theorem eq_keys {a b : Key} (ht : kTy a = kTy b) : eqV (kV a) (kV b) = decide (a = b) := by
  cases a with
  | inl i =>
    cases b with
    | inr y => cases ht
    | inl j => show (i == j) = _; rw [Bool.eq_iff_iff]; simp
  | inr x =>
    cases b with
    | inl y => cases ht
    | inr y => show (x == y) = _; rw [Bool.eq_iff_iff]; simp
theorem flat_key (a : Key) : flatV (kV a) = true := by cases a <;> rfl
theorem lex_keys : ∀ {ks js : List Key} {us vs : List Value} {i : Nat}, Vals (ks.map kV) us → Vals (js.map kV) vs → ks.map kTy = js.map kTy → Q (ksLt ks js) s → KatLex prog w A true false Q (us.zip vs) i s
  | [], [], _, _, _, ra, rb, _, h => by
    cases ra
    cases rb
    exact kat_nil h
  | [], _ :: _, _, _, _, _, _, e, _ => by cases e
  | _ :: _, [], _, _, _, _, _, e, _ => by cases e
  | a :: ks, b :: js, us, vs, i, ra, rb, e, h => by
    cases ra with
    | cons r1 ra =>
      cases rb with
      | cons r2 rb =>
        have e1 : kTy a = kTy b := (List.cons.inj e).1
        have e2 := (List.cons.inj e).2
        refine kat_cons (eqAt_V r1 r2 (flat_key a) (flat_key b) prog w _ _ ?_)
        rw [eq_keys e1]
        unfold ksLt at h
        by_cases hab : a = b
        · rw [if_pos hab] at h
          rw [decide_eq_true hab]
          exact kat_yes (lex_keys ra rb e2 h)
        · rw [if_neg hab] at h
          rw [decide_eq_false hab]
          exact kat_no (one_keys r1 r2 e1 h)
end
/-! ### list.sort, sorted -/
section
variable {prog : Program} {w : World} {A : Around} {E : Value → Shared → Prop} {s : Shared} {vs : List Value} {κ : SortKind} {lt : Nat → Nat → Bool} {Rl : List Nat → Prop}
def Kp (a : Addr) (h h' : Heap) : Prop := ∀ b o, b ≠ a → h.get? b = some o → h'.get? b = some o
theorem lsort_asks {a : Addr} {n : Nat} {P : PySem.Fin → Shared → Prop} (ho : s.heap.get? a = some (seqObj "list" vs.toArray n)) (h64 : vs.length < 64) (hg : 2 ≤ vs.length → kgood vs.length lt (kas_sort vs.length) fun p => KP vs.length p ∧ Rl p.toList) (hsm : vs.length < 2 → Rl (List.range vs.length))
    (hk : 2 ≤ vs.length → ∀ s' : Shared, Kp a s.heap s'.heap → ∀ Q : SortKind → Shared → Prop, Q κ s' → wpAny (model prog w) A (keyKind' vs.toArray) Q (fun _ _ => False) s')
    (hl : 2 ≤ vs.length → ∀ s' : Shared, Kp a s.heap s'.heap → ∀ i j, i < vs.length → j < vs.length → ∀ C : Bool → Shared → Prop, C (lt i j) s' → kas_ask prog w A κ vs i j C s')
    (h : ∀ (p : List Nat) (h' : Heap) (c : Nat), p.Perm (List.range vs.length) → Rl p → Kp a s.heap h' → h'.get? a = some (seqObj "list" (p.map fun i => vs.getD i Value.none).toArray c) → P (.done (.ret .none)) { s with heap := h' }) :
    wpAny (model prog w) A (Builtin.«list.sort» ⟨[.ref a], []⟩) P E s := by
  have lta : a < s.heap.objs.size := Heap.lt_size ho
  obtain ⟨e1, ho1⟩ : ∃ e1, (s.heap.update a (Obj.mapSeq fun _ => (#[] : Array Value))).get? a = some (seqObj "list" #[] e1) := ⟨_, get?_update_seq ho fun _ => #[]⟩
  have sz : vs.length ≤ sizeLine := by rw [sizeLine_eq]; omega
  have kp : Kp a s.heap (((s.heap.update a (Obj.mapSeq fun _ => (#[] : Array Value))).push (seqObj "tuple" vs.toArray 0)).push (seqObj "list" #[] 0)) := fun b o hb e =>
    Heap.get?_push_of_some _ (Heap.get?_push_of_some _ (((Heap.SameBut.update s.heap a _).2 b hb).trans e))
  have ho3 : (((s.heap.update a (Obj.mapSeq fun _ => (#[] : Array Value))).push (seqObj "tuple" vs.toArray 0)).push (seqObj "list" #[] 0)).get? a = some (seqObj "list" #[] e1) := Heap.get?_push_of_some _ (Heap.get?_push_of_some _ ho1)
  rw [list_sort_plain]
  refine wpAny_bind (listItems_at ho rfl (wpAny_bind (listUpdate_at ho rfl (wpAny_bind (seqEpoch_at ho1 rfl (wpAny_bind (wpAny_newTuple (wpAny_bind (wpAny_newList (wpAny_holding ?_) (Nat.zero_le _))) (by show vs.length ≤ _; exact sz))))) (by rw [List.size_toArray]; exact sz) (Nat.zero_le _))))
  show wpAny (model prog w) A _ P E { s with heap := ((s.heap.update a (Obj.mapSeq fun _ => (#[] : Array Value))).push (seqObj "tuple" vs.toArray 0)).push (seqObj "list" #[] 0) }
  dsimp only
  have fin : ∀ (p : List Nat), p.Perm (List.range vs.length) → Rl p → ∀ out : Array Value, out = (p.map fun i => vs.getD i Value.none).toArray →
      P (.done (.ret .none)) { s with heap := (((s.heap.update a (Obj.mapSeq fun _ => (#[] : Array Value))).push (seqObj "tuple" vs.toArray 0)).push (seqObj "list" #[] 0)).update a (Obj.mapSeq fun _ => out) } := fun p hp hrl out eo => by
    subst eo
    refine h p _ _ hp hrl (fun b o hb e => ((Heap.SameBut.update _ a _).2 b hb).trans (kp b o hb e)) (get?_update_seq ho3 _)
  by_cases h2 : vs.toArray.size < 2
  · rw [if_pos h2, if_pos h2]
    refine wpAny_bind (wpAny_pure ?_)
    rw [StateT.run_pure]
    refine wpAny_bind (wpAny_pure ?_)
    dsimp only
    have hz : (pairsOf vs).size ≤ sizeLine := by rw [pairsOf_size]; exact sz
    refine wpAny_bind (seqEpoch_at ho3 rfl (wpAny_bind (listUpdate_at ho3 rfl ?_ (hsz2 := by rw [Array.size_map]; show (pairsOf vs).size ≤ _; omega))))
    simp only [bne_self_eq_false, Bool.false_eq_true, if_false]
    refine wpAny_pure (fin (List.range vs.length) (List.Perm.refl _) (hsm (by simpa using h2)) _ ?_)
    apply Array.toList_inj.mp
    show ((vs.toArray.zip vs.toArray).map (·.2)).toList = _
    rw [Array.toList_map, Array.toList_zip, List.map_snd_zip (Nat.le_refl _)]
    show vs = _
    refine List.ext_getElem (by simp) fun i h1 h3 => ?_
    simp [List.getD, h1]
  · have h2' : 2 ≤ vs.length := by simpa using h2
    rw [if_neg h2, if_neg h2]
    refine wpAny_bind (wpAny_mono (hk h2' _ kp (fun k s' => k = κ ∧ s' = { s with heap := ((s.heap.update a (Obj.mapSeq fun _ => (#[] : Array Value))).push (seqObj "tuple" vs.toArray 0)).push (seqObj "list" #[] 0) }) ⟨rfl, rfl⟩) (fun k s0 hk0 => ?_) fun _ _ x => x.elim)
    obtain ⟨rfl, rfl⟩ := hk0
    refine wpAny_bind (wpAny_mono (kat_run (ks := vs) (vs := vs) (Q := fun st' s' => ∃ p : Array Nat, (KP vs.length p ∧ Rl p.toList) ∧ arrOf st' = p.map (kas_item (vs.toArray.zip vs.toArray)) ∧ failedOf st' = none ∧ s' = { s with heap := ((s.heap.update a (Obj.mapSeq fun _ => (#[] : Array Value))).push (seqObj "tuple" vs.toArray 0)).push (seqObj "list" #[] 0) })
      rfl h2' h64 (G := fun p s' => (KP vs.length p ∧ Rl p.toList) ∧ s' = { s with heap := ((s.heap.update a (Obj.mapSeq fun _ => (#[] : Array Value))).push (seqObj "tuple" vs.toArray 0)).push (seqObj "list" #[] 0) }) (fun p st' s' a1 a2 a3 a4 => ⟨p, a4.1, a2, a3, a4.2⟩) (kgood.wp (lt := lt) (hl h2' _ kp) (fun p hp => ⟨hp, rfl⟩) (hg h2'))) ?_ fun _ _ e => e)
    rintro ⟨⟨⟩, st'⟩ s' ⟨p, ⟨hp, hrl⟩, har, hf, rfl⟩
    dsimp only
    have hout := kat_snds (ks := vs) (vs := vs) rfl har
    have hps : p.toList.length = vs.length := by rw [hp.length_eq, List.length_range]
    rw [hout]
    refine wpAny_bind (seqEpoch_at ho3 rfl (wpAny_bind (listUpdate_at ho3 rfl ?_ (Nat.zero_le _) (by rw [List.size_toArray, List.length_map, hps]; omega))))
    rw [hf]
    simp only [bne_self_eq_false, Bool.false_eq_true, if_false]
    exact wpAny_pure (fin p.toList hp hrl _ rfl)
/-- sorted(r), where r is collected as vs -/
theorem sorted_asks {r : Addr} {Q : Value → Shared → Prop} (h64 : vs.length < 64) (hg : 2 ≤ vs.length → kgood vs.length lt (kas_sort vs.length) fun p => KP vs.length p ∧ Rl p.toList) (hsm : vs.length < 2 → Rl (List.range vs.length))
    (hc : ∀ R : List Value → Shared → Prop, (∀ us h1 tk, s.heap.objs.size ≤ h1.objs.size → (∀ b o, s.heap.get? b = some o → h1.get? b = some o) → us = vs → R us { s with heap := h1, toks := tk }) → wpAny (model prog w) A.in1 (collect (.ref r)) R E s)
    (hk : 2 ≤ vs.length → ∀ s' : Shared, (∀ b o, s.heap.get? b = some o → s'.heap.get? b = some o) → ∀ Q : SortKind → Shared → Prop, Q κ s' → wpAny (model prog w) A.in1.in1 (keyKind' vs.toArray) Q (fun _ _ => False) s')
    (hl : 2 ≤ vs.length → ∀ s' : Shared, (∀ b o, s.heap.get? b = some o → s'.heap.get? b = some o) → ∀ i j, i < vs.length → j < vs.length → ∀ C : Bool → Shared → Prop, C (lt i j) s' → kas_ask prog w A.in1.in1 κ vs i j C s')
    (h : ∀ (p : List Nat) (D : Addr) (h' : Heap) (c tk : Nat), p.Perm (List.range vs.length) → Rl p → s.heap.objs.size ≤ D → (∀ b o, s.heap.get? b = some o → h'.get? b = some o) → h'.get? D = some (seqObj "list" (p.map fun i => vs.getD i Value.none).toArray c) → Q (.ref D) { s with heap := h', toks := tk }) :
    wpAny (model prog w) A (call (.builtin "sorted") [.ref r]) Q E s := by
  refine Calls.call_function_entry kind_sorted plain_sorted entry_sorted (args_sorted1 _) ?_
  unfold Builtin.«sorted»
  refine wpAny_bind (m := checkCount "sorted" 1 1 _) (wpAny_pure (wpAny_bind (hc _ fun us h1 tk hsz kk eu => ?_)))
  subst eu
  refine wpAny_bind (wpAny_newList ?_ (by rw [sizeLine_eq]; omega))
  have hoL : (h1.push (seqObj "list" us.toArray 0)).get? h1.objs.size = some (seqObj "list" us.toArray 0) := Heap.get?_push_size _ rfl
  have ltD : ∀ b o, s.heap.get? b = some o → b ≠ h1.objs.size := fun b o e => Nat.ne_of_lt (Heap.lt_size (kk b o e))
  have up : ∀ s' : Shared, Kp h1.objs.size (h1.push (seqObj "list" us.toArray 0)) s'.heap → ∀ b o, s.heap.get? b = some o → s'.heap.get? b = some o := fun s' k b o e => k b o (ltD b o e) (Heap.get?_push_of_some _ (kk b o e))
  refine wpAny_bind (wpAny_holding (wpAny_call_entry slot_list_sort ⟨_, hoL, rfl⟩ entry_list_sort (lsort_asks (κ := κ) (lt := lt) (s := { s with heap := h1.push (seqObj "list" us.toArray 0), toks := tk }) hoL h64 hg hsm (fun h2 s' k => hk h2 s' (up s' k)) (fun h2 s' k => hl h2 s' (up s' k)) fun p h' c hp hrl k e => ⟨_, rfl, ?_⟩) (args_list_sort _)))
  exact wpAny_pure ⟨_, rfl, h p h1.objs.size h' c tk hp hrl hsz (up { s with heap := h' } k) e⟩
end
end L2

set_option maxHeartbeats 4000000
namespace L2
open PySem PySem.Spec PyProof.Rows PySem.W
/-! ### the keys of a dict, whatever they are -/
def DRaw (h : Heap) (d : Addr) (es : Array DictEntry) (ep : Nat) : Prop := ∃ o, h.get? d = some o ∧ o.ExactDict ∧ o.data = .dict es ep
section
variable {prog : Program} {w : World} {A : Around} {E : Value → Shared → Prop} {s : Shared} {d it : Addr} {es : Array DictEntry} {ep i : Nat}
theorem DRaw.ty (h : DRaw s.heap d es ep) : s.TypeIs (.ref d) "dict" := let ⟨o, ho, hc, _⟩ := h; ⟨o, ho, hc.1⟩
theorem raw_iter {Q : Value → Shared → Prop} (hd : (d == sysModules) = false) (hm : DRaw s.heap d es ep)
    (hQ : Q (.ref s.heap.objs.size) { s with heap := s.heap.push { cls := .type "dict_keyiterator", data := .fields #[.ref d, .int 0 0, .int es.size 0, .int ep 0] } }) : wpAny (model prog w) A (pyIter (.ref d)) Q E s := by
  obtain ⟨o, ho, hc, hdat⟩ := id hm
  have hT := hm.ty
  refine wpAny_pyIter_slot hT F.slot_dict_iter (wpAny_call_entry F.slot_dict_iter hT F.entry_dict_iter ?_ (F.args_dict_iter_1 _)); unfold Builtin.«dict.__iter__»
  refine wpAny_bind ?_; unfold Builtin.Dict.dictSlotNone
  refine wpAny_bind (wpAny_notOrdered_dict hT ?_); show wpAny _ _ (pure (Value.ref d)) _ _ s
  refine wpAny_pure ?_; show wpAny _ _ (Builtin.Dict.showsAll d >>= _) _ _ s
  unfold Builtin.Dict.showsAll; rw [if_neg (by rw [hd]; exact Bool.false_ne_true)]
  refine wpAny_bind (wpAny_pure (wpAny_bind (wpAny_dictEntries ho hdat (wpAny_bind (wpAny_dictEpoch ho hdat ?_)))))
  refine wpAny_bind (wpAny_newObj_type (wpAny_pure ⟨_, rfl, "dict_keyiterator", _, ⟨_, Heap.get?_push_size _ rfl, rfl⟩, F.slot_dict_keyiterator_next.lookup, ?_⟩)); simpa [rawInt] using hQ
theorem raw_item {Q : Option Value → Shared → Prop} (hit : s.heap.IsKeyIter it d i es.size ep) (hm : DRaw s.heap d es ep) (hlt : i < es.size)
    (hQ : ∀ h', h'.IsKeyIter it d (i + 1) es.size ep → Heap.SameBut it s.heap h' → Q (some es[i].key) { s with heap := h' }) : wpAny (model prog w) A (pyNext (.ref it)) Q E s := by
  obtain ⟨o, ho, hc, hd⟩ := id hit; obtain ⟨od, hod, hcd, hdd⟩ := id hm
  unfold pyNext; refine wpAny_bind (wpAny_attempt (wpAny_callSpecial?_slot (name := Str.ofString "__next__") hit.typeIs F.slot_dict_keyiterator_next (wpAny_call_entry F.slot_dict_keyiterator_next hit.typeIs F.entry_dict_keyiterator_next ?_ (F.args_dict_keyiterator_next_1 _))))
  refine wpAny_bind (wpAny_pure ?_); refine wpAny_bind ?_; refine wpAny_bind ?_
  first | refine wpAny_bind (wpAny_typeNameOfWhole_keyiter hit.typeIs (wpAny_pure (wpAny_bind (wpAny_fieldsOf ho hd ?_)))) | refine wpAny_bind (wpAny_typeNameOf_keyiter hit.typeIs (wpAny_pure (wpAny_bind (wpAny_fieldsOf ho hd ?_))))
  have own : Builtin.Dict_items.ownsTuple "dict_keyiterator" = false := by decide
  simp only [own, Bool.false_eq_true, if_false]; show wpAny _ _ (if (Value.ref d == Value.none) = true then _ else _) _ _ s
  rw [if_neg (show ¬ ((Value.ref d == Value.none) = true) from Bool.false_ne_true)]; refine wpAny_bind (wpAny_pure (wpAny_bind (wpAny_dictEntries hod hdd ?_)))
  rw [if_neg (by simp)]; refine wpAny_bind (wpAny_pure (wpAny_bind (wpAny_dictEpoch hod hdd ?_)))
  rw [if_neg (by simp)]; refine wpAny_pure ?_
  simp only [show ¬ ((i : Int) < 0) from by omega, if_false, Int.toNat_natCast, Array.getElem?_eq_getElem hlt]; refine wpAny_bind ?_
  first | refine wpAny_bind (wpAny_typeNameOfWhole_keyiter hit.typeIs (wpAny_pure (wpAny_bind (wpAny_isOneOf_keyiter hit.typeIs ?_)))) | refine wpAny_bind (wpAny_typeNameOf_keyiter hit.typeIs (wpAny_pure (wpAny_bind (wpAny_isOneOf_keyiter hit.typeIs ?_))))
  show wpAny _ _ (setField (.ref it) 1 (rawInt ((i : Int) + 1)) >>= _) _ _ s; refine wpAny_bind (wpAny_setField ho hd (by simp) ?_)
  have hit' : (s.heap.update it (Obj.mapFields (·.setIfInBounds 1 (rawInt ((i : Int) + 1))))).IsKeyIter it d (i + 1) es.size ep := ⟨_, Heap.get?_update_self _ ho (Obj.isFreed_of_fields (Obj.data_mapFields hd _)), (Obj.cls_mapFields ..).trans hc, by rw [Obj.data_mapFields hd]; simp [rawInt]⟩
  refine wpAny_bind (wpAny_holding ?_); refine wpAny_bind (wpAny_isOneOf_keyiter (s := { s with heap := s.heap.update it (Obj.mapFields (·.setIfInBounds 1 (rawInt ((i : Int) + 1)))) }) hit'.typeIs ?_)
  show wpAny _ _ (pure es[i].key) _ _ _; exact wpAny_pure (wpAny_pure ⟨_, rfl, wpAny_pure (hQ _ hit' (Heap.SameBut.update ..))⟩)
theorem raw_end {Q : Option Value → Shared → Prop} (hh : A.handled = none) (hit : s.heap.IsKeyIter it d i es.size ep) (hm : DRaw s.heap d es ep) (hge : es.size ≤ i)
    (hQ : ∀ h', Heap.ExtBut it s.heap h' → Q none { s with heap := h' }) : wpAny (model prog w) A (pyNext (.ref it)) Q E s := by
  obtain ⟨o, ho, hc, hd⟩ := id hit; obtain ⟨od, hod, hcd, hdd⟩ := id hm
  unfold pyNext; refine wpAny_bind (wpAny_attempt (wpAny_callSpecial?_slot (name := Str.ofString "__next__") hit.typeIs F.slot_dict_keyiterator_next (wpAny_call_entry F.slot_dict_keyiterator_next hit.typeIs F.entry_dict_keyiterator_next ?_ (F.args_dict_keyiterator_next_1 _))))
  refine wpAny_bind (wpAny_pure ?_); refine wpAny_bind ?_; refine wpAny_bind ?_
  first | refine wpAny_bind (wpAny_typeNameOfWhole_keyiter hit.typeIs (wpAny_pure (wpAny_bind (wpAny_fieldsOf ho hd ?_)))) | refine wpAny_bind (wpAny_typeNameOf_keyiter hit.typeIs (wpAny_pure (wpAny_bind (wpAny_fieldsOf ho hd ?_))))
  have own : Builtin.Dict_items.ownsTuple "dict_keyiterator" = false := by decide
  simp only [own, Bool.false_eq_true, if_false]; show wpAny _ _ (if (Value.ref d == Value.none) = true then _ else _) _ _ s
  rw [if_neg (show ¬ ((Value.ref d == Value.none) = true) from Bool.false_ne_true)]; refine wpAny_bind (wpAny_pure (wpAny_bind (wpAny_dictEntries hod hdd ?_)))
  rw [if_neg (by simp)]; refine wpAny_bind (wpAny_pure (wpAny_bind (wpAny_dictEpoch hod hdd ?_)))
  rw [if_neg (by simp)]; refine wpAny_pure ?_
  simp only [show ¬ ((i : Int) < 0) from by omega, if_false, Int.toNat_natCast, Array.getElem?_eq_none hge]; refine wpAny_bind ?_
  first | refine wpAny_bind (wpAny_typeNameOfWhole_keyiter hit.typeIs (wpAny_pure ?_)) | refine wpAny_bind (wpAny_typeNameOf_keyiter hit.typeIs (wpAny_pure ?_))
  show wpAny _ _ (setField (.ref it) 0 .none >>= _) _ _ s; refine wpAny_bind (wpAny_setField ho hd (by simp) ?_)
  show wpAny _ _ (newExc (.type "StopIteration") [] >>= _) _ _ _; refine wpAny_bind ?_; simp only [newExc, newTuple]
  refine wpAny_bind (wpAny_newObj_type ?_ (by size_fits)); refine wpAny_bind (m := firstArgMember _ _) (wpAny_of_eq (a := Value.none) (by first | rfl | (simp only [firstArgMember]; rfl)) ?_)
  refine wpAny_newObj_type ?_ (by size_fits); simp only [raiseNew]; refine wpAny_bind (wpAny_handled ?_)
  rw [show A.in1.handled = none from hh]; refine wpAny_bind (wpAny_pure (wpAny_throw ?_))
  refine wpAny_bind (wpAny_isInstance (T := "StopIteration") (b := true) ⟨_, Heap.get?_push_size _ rfl, rfl⟩ isSubtype_stop ?_); exact wpAny_pure (hQ _ (((Heap.SameBut.update ..).extBut.push _).push _))
theorem raw_walks (hh : A.handled = none) (hne : d ≠ it) : Walks prog w A it [it, d] [it] es.size (fun i v => (es[i]?).map (·.key) = some v) (fun i h => h.IsKeyIter it d i es.size ep ∧ DRaw h d es ep) where
  sub := fun b hb => by simp at hb; simp [hb]
  frame := fun _ _ _ st hk => ⟨st.1.at fun o e => hk it (by simp) o e, let ⟨o, ho, r⟩ := st.2; ⟨o, hk d (by simp) o ho, r⟩⟩
  item := fun i s Q E hi st hQ => raw_item st.1 st.2 hi fun h' hit' hs' => hQ _ h' s.toks (by simp [hi]) ⟨hit', let ⟨o, ho, r⟩ := st.2; ⟨o, (hs'.2 d hne).trans ho, r⟩⟩ fun b o hb e => (hs'.2 b fun z => hb (by simp [z])).trans e
  done := fun s Q E st hQ => raw_end hh st.1 st.2 (Nat.le_refl _) fun h' he' => hQ h' s.toks fun b o hb e => he' b o (fun z => hb (by simp [z])) e
  self := fun _ _ _ _ st hQ => wpAny_pyIter_keyiter st.1 hQ
theorem raw_src (lo : (d == sysModules) = false) : KdlSrc prog w "dict" d d es.size (fun i v => (es[i]?).map (·.key) = some v) (fun h => DRaw h d es ep) where
  type := fun _ hm => hm.ty
  there := fun _ hm => let ⟨_, ho, _⟩ := hm; ⟨Heap.lt_size ho, Heap.lt_size ho⟩
  keep := fun _ _ hm hk => let ⟨o, ho, r⟩ := hm; ⟨o, hk d (.inl rfl) o ho, r⟩
  notList := by decide
  notTuple := by decide
  hint := fun _ _ _ _ hm hq => kdl_hint_dict hm.ty hq
  iter := fun _ _ hh hm => ⟨_, _, (fun _ _ hq => raw_iter lo hm hq), raw_walks hh (let ⟨_, ho, _⟩ := hm; Nat.ne_of_lt (Heap.lt_size ho)), ⟨⟨_, Heap.get?_push_size _ rfl, rfl, rfl⟩, let ⟨o, ho, r⟩ := hm; ⟨o, Heap.get?_push_of_some _ ho, r⟩⟩⟩
/-- a dict's keys, collected -/
theorem src_collect {T : String} {r d : Addr} {n : Nat} {P : Nat → Value → Prop} {OK : Heap → Prop} {R : List Value → Shared → Prop} (K : KdlSrc prog w T r d n P OK) (hh : A.handled = none) (hok : OK s.heap) (hn : n ≤ sizeLine)
    (h : ∀ (h' : Heap) (tk : Nat) (acc : Array Value), s.heap.objs.size ≤ h'.objs.size → (∀ b o, s.heap.get? b = some o → h'.get? b = some o) → ItemsOf P acc n → R acc.toList { s with heap := h', toks := tk }) :
    wpAny (model prog w) A (collect (.ref r)) R E s := by
  have hlt := K.there _ hok
  unfold collect; refine wpAny_bind (wpAny_runValue (codeAny_builtin entry_proto_collect' ?_)); rw [Around.under_plainId PySem.F.plain_proto_collect _]
  show wpAny _ A.in1 (newList [] >>= fun l => again (.builtin "list.__iadd__" ⟨[l, .ref r], []⟩)) _ _ s; refine wpAny_bind (wpAny_newObj_type ?_)
  refine wpAny_pure ⟨plainId_quiet PySem.F.plain_list_iadd _, codeAny_builtin entry_list_iadd' ?_⟩; rw [Around.under_plainId PySem.F.plain_list_iadd _]
  have hS : (s.heap.push { cls := .type "list", data := .seq ([] : List Value).toArray }).get? s.heap.objs.size = some { cls := .type "list", data := .seq #[] } := Heap.get?_push_size _ rfl
  show wpAny _ A.in1 (Builtin.List.listExtendWith (.ref s.heap.objs.size) (.ref r) (.ref s.heap.objs.size)) _ _ _
  have key := kdl_extend (A := A) (s := { s with heap := s.heap.push { cls := .type "list", data := .seq ([] : List Value).toArray } }) (R := fun (q : Result) (s' : Shared) => ∃ (h' : Heap) (tk : Nat) (acc' : Array Value) (c' : Nat), q = .ok (.ret (.ref s.heap.objs.size)) ∧ s' = { s with heap := h', toks := tk } ∧ (∀ b o, s.heap.get? b = some o → h'.get? b = some o) ∧ h'.get? s.heap.objs.size = some { cls := .type "list", dict := none, data := .seq acc' c', slots := #[] } ∧ ItemsOf P acc' n)
    K hh (K.keep _ _ hok fun b _ o e => Heap.get?_push_of_some _ e) s.heap.objs.size (Nat.ne_of_gt hlt.1) (Nat.ne_of_gt hlt.2) (.ref s.heap.objs.size) 0 hS (fun h' tk acc' c' hk hS' hacc => ⟨h', tk, acc', c', rfl, rfl, fun b o e => hk b o (Nat.ne_of_lt (Heap.lt_size e)) (Heap.get?_push_of_some _ e), hS', hacc⟩) hn
  refine wpAny_mono key (fun fin s' x => ?_) fun e s' x => ?_
  · cases fin with
    | done f =>
      obtain ⟨h', tk, acc', c', e, rfl, hk, hS', hacc⟩ := x
      cases e; show wpAny _ A (load s.heap.objs.size >>= _) _ _ _
      exact wpAny_bind (wpAny_load hS' (wpAny_pure (h h' tk acc' (Nat.le_of_lt (Heap.lt_size hS')) hk hacc)))
    | again c₁ =>
      refine ⟨x.1, codeAny_mono x.2 fun q s₂ y => ?_⟩
      obtain ⟨h', tk, acc', c', rfl, rfl, hk, hS', hacc⟩ := y
      show wpAny _ A (load s.heap.objs.size >>= _) _ _ _; exact wpAny_bind (wpAny_load hS' (wpAny_pure (h h' tk acc' (Nat.le_of_lt (Heap.lt_size hS')) hk hacc)))
  · obtain ⟨_, _, _, _, e', _⟩ := x; cases e'
end
end L2

set_option maxHeartbeats 4000000
namespace L2
open PySem PySem.Spec PyProof.Rows PySem.W
section
variable {X : Cx}
theorem call_sorted_ints : CallR X (.builtin "sorted") (fun xs H Q => ∃ (p : Addr) (ns : List Int), xs = [.ref p] ∧ SqL X.K H p (ns.map V.int) ∧ ns.length < 64 ∧ ∀ (l : Addr) (ns' : List Int), H l = none → ns'.Perm ns → ns'.Pairwise (· ≤ ·) → Q (.ref l) (upd H l (.lst (ns'.map V.int)))) := by
  intro pins s σ H xs us Q I r h
  obtain ⟨p, ns, rfl, hp, h64, q⟩ := h
  obtain ⟨u, rfl, ru⟩ := vals1 r
  cases ru
  obtain ⟨its, rv, pl, _⟩ := I.list hp
  have hi : IntsAre its ns := intsAre_of rv
  have hl := rv.length
  rw [List.length_map] at hl
  refine sorted_ints pl.isList hi (by omega) fun out ns' a1 a2 a3 => ?_
  obtain ⟨e, he⟩ := sortedAll_at s.heap its out
  have hz : ns'.length ≤ sizeLine := by rw [a2.length_eq, sizeLine_eq]; omega
  exact ⟨.ref (s.heap.objs.size + 1), _, I.laid (o := .lst (ns'.map V.int)) (t' := s.toks) (fun _ _ => sortedAll_old) (Nat.le_succ _) ⟨by rw [List.length_map]; exact hz, out.toList, e, vals_ints a1, by simpa [seqObj] using he⟩, rfl, q _ ns' (I.hok.fresh (Nat.le_succ _)) a2 a3⟩
theorem Room.units1 {k : Nat} {A : Around} (r : Room k A) : A.units + 1 < cLine := by have := r.un; omega
/-! ### rows of keys, sorted -/
abbrev Row := Addr × List Key
def TupAt (h : Heap) (r : Row) : Prop := ∃ its, Vals (r.2.map kV) its ∧ IsTup h r.1 its.toArray
theorem TupAt.keep {h h' : Heap} {r : Row} (t : TupAt h r) (k : ∀ b o, h.get? b = some o → h'.get? b = some o) : TupAt h' r := by
  obtain ⟨its, v, o, e, c⟩ := t
  exact ⟨its, v, o, k _ _ e, c⟩
theorem tups_of {h : Heap} {b : Bool} {sh : List Bool} : ∀ {rows : List Row}, (∀ r ∈ rows, TupAt h r ∧ r.2.map kTy = b :: sh) → ∃ fs, KatTups h (rows.map fun r => Value.ref r.1) fs ∧ fs.length = rows.length ∧ ∀ f ∈ fs, ∃ k, RelV (kV k) f ∧ kTy k = b
  | [], _ => ⟨[], KatTups.nil, rfl, by simp⟩
  | r :: rows, ha => by
    obtain ⟨fs, t, l, g⟩ := tups_of (rows := rows) fun q hq => ha q (List.mem_cons_of_mem _ hq)
    obtain ⟨⟨its, v, o, e, c, n, d⟩, s⟩ := ha r List.mem_cons_self
    obtain ⟨a, ks⟩ := r
    cases ks with
    | nil => cases s
    | cons k ks =>
      cases v with
      | @cons _ u _ us v1 v2 =>
        refine ⟨u :: fs, KatTups.cons e c d (by simp) t, by simp [l], fun f hf => ?_⟩
        rcases List.mem_cons.mp hf with rfl | hf
        · exact ⟨k, v1, (List.cons.inj s).1⟩
        · exact g f hf
theorem looks_key {M : Model} {h : Heap} {k : Key} {f : Value} {b : Bool} (r : RelV (kV k) f) (e : kTy k = b) : Looks M h (typeOf f) (if b = true then .type "int" else .type "str") := by
  subst e
  cases k with
  | inl i => obtain ⟨t, rfl⟩ := r; exact Looks.of_pure rfl
  | inr i => obtain ⟨t, rfl⟩ := r; exact Looks.of_pure rfl
theorem getD_ref (rows : List Row) {i : Nat} (hi : i < rows.length) : (rows.map fun r => Value.ref r.1).getD i Value.none = .ref rows[i].1 := by simp [List.getD, hi]
def rowAt (rows : List Row) (i : Nat) : List Key := ((rows[i]?).map (·.2)).getD []
theorem rows_kind {prog : Program} {w : World} {A : Around} {s' : Shared} {rows : List Row} {b : Bool} {sh : List Bool} (ha : ∀ r ∈ rows, TupAt s'.heap r ∧ r.2.map kTy = b :: sh) (h0 : 0 < rows.length) (Q : SortKind → Shared → Prop) (q : Q (tuples' true) s') :
    wpAny (model prog w) A (keyKind' (rows.map fun r => Value.ref r.1).toArray) Q (fun _ _ => False) s' := by
  obtain ⟨fs, t, l, g⟩ := tups_of ha
  refine kat_kind (T := if b = true then .type "int" else .type "str") t (by omega) (fun v hv => ?_) (by cases b <;> rfl) (by cases b <;> exact q)
  obtain ⟨k, r, e⟩ := g v hv
  exact looks_key r e
theorem rows_lt {prog : Program} {w : World} {A : Around} {s' : Shared} {rows : List Row} {sh : List Bool} (ha : ∀ r ∈ rows, TupAt s'.heap r ∧ r.2.map kTy = sh) {i j : Nat} (hi : i < rows.length) (hj : j < rows.length) (C : Bool → Shared → Prop) (q : C (ksLt (rowAt rows i) (rowAt rows j)) s') :
    kas_ask prog w A (tuples' true) (rows.map fun r => Value.ref r.1) i j C s' := by
  obtain ⟨⟨its, v, o, e, c, n, d⟩, s1⟩ := ha rows[i] (List.getElem_mem hi)
  obtain ⟨⟨its2, v2, o2, e2, c2, n2, d2⟩, s2⟩ := ha rows[j] (List.getElem_mem hj)
  unfold kas_ask
  rw [getD_ref rows hi, getD_ref rows hj]
  have l1 := v.length
  have l2 := v2.length
  have l3 : rows[i].2.length = rows[j].2.length := by
    have := congrArg List.length (s1.trans s2.symm)
    simpa using this
  refine kat_lt e d e2 d2 ?_
  have ez : decide (its.toArray.size < its2.toArray.size) = false := by
    rw [decide_eq_false]
    simp only [List.size_toArray]
    rw [List.length_map] at l1 l2
    omega
  rw [ez]
  have q' : C (ksLt rows[i].2 rows[j].2) s' := by
    unfold rowAt at q
    rw [List.getElem?_eq_getElem hi, List.getElem?_eq_getElem hj] at q
    exact q
  exact lex_keys (by simpa using v) (by simpa using v2) (s1.trans s2.symm) q'
theorem perm_rows {rows : List Row} {p : List Nat} (h : p.Perm (List.range rows.length)) : (p.map fun i => rows.getD i (0, [])).Perm rows := by
  have e : (List.range rows.length).map (fun i => rows.getD i (0, [])) = rows := List.ext_getElem (by simp) fun i h1 h2 => by simp [List.getD, h2]
  exact (h.map _).trans (by rw [e])
theorem perm_vals {rows : List Row} {p : List Nat} (h : p.Perm (List.range rows.length)) : (p.map fun i => (rows.map fun r => Value.ref r.1).getD i Value.none) = (p.map fun i => rows.getD i (0, [])).map fun r => Value.ref r.1 := by
  rw [List.map_map]
  refine List.map_congr_left fun i hi => ?_
  have hlt := List.mem_range.mp (h.mem_iff.mp hi)
  rw [getD_ref rows hlt]
  simp [List.getD, hlt]
theorem refs_of : ∀ {rows : List Row} {us : List Value}, Vals (rows.map fun r => V.ref r.1) us → us = rows.map fun r => Value.ref r.1
  | [], _, h => by cases h; rfl
  | r :: rows, _, h => by
    cases h with
    | cons a b =>
      cases a
      rw [refs_of b]
      rfl
theorem vals_refs : ∀ (rows : List Row), Vals (rows.map fun r => V.ref r.1) (rows.map fun r => Value.ref r.1)
  | [] => .nil
  | r :: rows => .cons rfl (vals_refs rows)
end
end L2

set_option maxHeartbeats 4000000
namespace L2
open PySem PySem.Spec PyProof.Rows PySem.W
section
variable {K : PySem.W.Frag} {T : Tgt} {J : It} {n : Nat} {vs : Nat → List V} {G : Hp → Prop} {ts : TT} {em : TM} {fs : St} {H0 H1 : Hp} {D : Addr} {done : Hp → Prop}
/-- a block by an invariant, whatever it lays -/
theorem blk_invG (F : Fy K T J n vs G) (Pv : Nat → Hp → Prop) (h0 : Pv 0 H0) (hS : ∀ i H H', Pv i H → Same H H' → Pv i H') (hG : ∀ i H, i ≤ n → Pv i H → G H)
    (step : ∀ i H, i < n → Pv i H → ∀ (QY QN : Hp → Prop), (∀ H3, Pv (i + 1) H3 → QY H3) → (∀ H2, Pv (i + 1) H2 → QN H2) → ts ((vs i).map some ++ fs) H fun b H2 => if b = true then em ((vs i).map some ++ fs) H2 QY else QN H2)
    (fin : ∀ H, Pv n H → done H) : tBlk K T ts em fs J H0 done := by
  refine ⟨fun i m H => i ≤ n ∧ m = n - i ∧ Pv i H, ⟨n, Nat.zero_le _, rfl, h0⟩, ?_⟩
  rintro i m H ⟨hi, rfl, p⟩
  have g := hG i H hi p
  by_cases hlt : i < n
  · refine .inr ⟨F.go i H hlt g, fun x H' y => ?_⟩
    obtain ⟨e, tv⟩ := F.yld i H x H' hlt g y
    refine ⟨vs i, tv, ?_⟩
    exact step i H' hlt (hS i H H' p e) _ _ (fun H3 p3 => ⟨n - (i + 1), by omega, by omega, rfl, p3⟩) (fun H2 p2 => ⟨n - (i + 1), by omega, by omega, rfl, p2⟩)
  · have e : i = n := by omega
    subst e
    exact .inl ⟨F.stop H g, fin H p⟩
end
/-- rows of a tuple, rows of a list -/
theorem fx_tupT {K : PySem.W.Frag} (a : Addr) (m : Nat) (rows : List Addr) (vs : Nat → List V) (hv : ∀ i, i < rows.length → (vs i).length = m) : Fx K (.many m) (Itt K a) rows.length vs (fun H => SqT K H a (rows.map V.ref) ∧ ∀ i c, rows[i]? = some c → SqT K H c (vs i)) where
  go := fun i H hi h => ⟨_, .ref rows[i], h.1, by simp [hi]⟩
  yld := fun i H x H' hi h y => by
    obtain ⟨e, y⟩ := y
    have e2 := y _ h.1
    rw [List.getElem?_map, List.getElem?_eq_getElem hi] at e2
    cases e2
    exact ⟨e, rows[i], rfl, h.2 i _ (List.getElem?_eq_getElem hi), hv i hi⟩
  stop := fun H h => ⟨_, h.1, by simp⟩
theorem tall_if {σ : St} {H : Hp} {A B : Hp → Prop} (h : A H) : tAll σ H (fun b H2 => if b = true then A H2 else B H2) := (show if true = true then A H else B H from iteT h)
end L2

set_option maxHeartbeats 4000000
namespace L2
open PySem PySem.Spec PyProof.Rows PySem.W
/-! ### t < u of rows of keys -/
theorem eqAt_key (A : Around) (s : Shared) {a b : Key} {u v : Value} (ra : RelV (kV a) u) (rb : RelV (kV b) v) (ht : kTy a = kTy b) : SeqAt.EqAt A s u v (decide (a = b)) := by
  rw [← eq_keys ht]
  exact eqAt_V ra rb (flat_key a) (flat_key b)
theorem rcLt_key (A : Around) (s : Shared) {a b : Key} {u v : Value} (ra : RelV (kV a) u) (rb : RelV (kV b) v) (ht : kTy a = kTy b) (prog : Program) (w : World) (E : Value → Shared → Prop) (Q : Value → Shared → Prop) (h : Q (.bool (kLt a b)) s) :
    wpAny (model prog w) A (richCompare .Lt u v) Q E s := by
  cases a with
  | inl i =>
    cases b with
    | inr y => cases ht
    | inl j =>
      obtain ⟨t, rfl⟩ := ra
      obtain ⟨t', rfl⟩ := rb
      exact (lt_int h : wpAny (model prog w) A (compareOp .Lt _ _) Q E s)
  | inr x =>
    cases b with
    | inl y => cases ht
    | inr y =>
      obtain ⟨t, rfl⟩ := ra
      obtain ⟨t', rfl⟩ := rb
      exact (lt_str h : wpAny (model prog w) A (compareOp .Lt _ _) Q E s)
section
open PySem.SeqAt
open PySem.AutoSeq1 (wpAny_loadPart')
open PySem.MeetsSeq PySem.MeetsSeq2 PySem.MeetsSeq3
theorem tuple_lt_keys (l b : Addr) (items items2 : Array Value) (n n2 : Nat) (dd dd2 : Option Addr) (sl sl2 : Array (Option Value)) (ns ms : List Key) (hi : Vals (ns.map kV) items.toList) (hj : Vals (ms.map kV) items2.toList) (hty : ns.map kTy = ms.map kTy) :
    Meets (Builtin.«tuple.__lt__» ⟨[.ref l, .ref b], []⟩)
      (fun _ R s => s.heap.get? l = some { cls := .type "tuple", dict := dd, data := .seq items n, slots := sl } ∧ s.heap.get? b = some { cls := .type "tuple", dict := dd2, data := .seq items2 n2, slots := sl2 } ∧ R (.ok (.ret (.bool (ksLt ns ms)))) s) :=
  .of_wp fun prog w A R s h => by
    obtain ⟨hp, g, d, tk, os⟩ := s; obtain ⟨hl, hb, h⟩ := h
    have f2 := AutoSeq1.sub_tuple_tuple
    have z0 : ns.length = ms.length := by have := congrArg List.length hty; simpa using this
    have z1 : items.size = ns.length := by have := hi.length; rw [List.length_map] at this; simpa using this.symm
    have z2 : items2.size = ms.length := by have := hj.length; rw [List.length_map] at this; simpa using this.symm
    wp_walk using wpAny_loadPart' hl, wpAny_loadPart' hb, wpAny_forIn_list _ (fun rest b s' => b.1 = none ∧ s' = ⟨hp, g, d, tk, os⟩ ∧ ∃ (vs ws : List Value) (ns' ms' : List Key), rest = vs.zip ws ∧
      Vals (ns'.map kV) vs ∧ Vals (ms'.map kV) ws ∧ ns'.map kTy = ms'.map kTy ∧ R (.ok (.ret (.bool (ksLt ns' ms')))) ⟨hp, g, d, tk, os⟩) _
    case turn =>
      rintro ⟨y, x⟩ rest b s' ⟨hb', rfl, vs, ws, ns', ms', hz, hvi, hwi, hlen, hR⟩
      cases ns' with
      | nil => cases hvi; rw [List.zip_nil_left] at hz; cases hz
      | cons a ns' =>
        cases ms' with
        | nil => cases hlen
        | cons c ms' =>
          cases hvi with
          | cons r1 hvi' =>
            cases hwi with
            | cons r2 hwi' =>
              rw [List.zip_cons_cons] at hz
              injection hz with hyx hrest
              injection hyx with hy hx
              subst hy hx
              have t1 : kTy a = kTy c := (List.cons.inj hlen).1
              have t2 := (List.cons.inj hlen).2
              unfold ksLt at hR
              refine wpAny_bind (eqAt_key A.in1 ⟨hp, g, d, tk, os⟩ r1 r2 t1 prog w _ _ ?_)
              by_cases hac : a = c
              · rw [if_pos hac] at hR
                rw [decide_eq_true hac]
                wp_walk
                exact ⟨rfl, rfl, _, _, _, _, hrest, hvi', hwi', t2, hR⟩
              · rw [if_neg hac] at hR
                rw [decide_eq_false hac]
                have hri := rcLt_key A.in1 ⟨hp, g, d, tk, os⟩ r1 r2 t1 prog w
                wp_walk using hri
                exact ⟨_, rfl, by simpa using hR⟩
    case fin =>
      rintro ⟨b1, b2⟩ s' ⟨hb', rfl, vs, ws, ns', ms', hz, hvi, hwi, hlen, hR⟩
      simp only at hb'
      subst hb'
      have hv : ksLt ns' ms' = decide (items.size < items2.size) := by
        rw [decide_eq_false (by omega)]
        cases ns' with
        | nil => unfold ksLt; rfl
        | cons a ns' =>
          cases ms' with
          | nil => cases hlen
          | cons c ms' =>
            cases hvi with
            | cons r1 hvi' =>
              cases hwi with
              | cons r2 hwi' =>
                rw [List.zip_cons_cons] at hz
                cases hz
      rw [hv] at hR
      wp_walk
      exact ⟨_, rfl, by simpa [Builtin.Tuple.tupleCompareSizes] using hR⟩
    case h =>
      exact ⟨rfl, rfl, items.toList, items2.toList, ns, ms, rfl, hi, hj, hty, h⟩
end
theorem lt_tupKeys {prog : Program} {w : World} {A : Around} {E : Value → Shared → Prop} {s : Shared} {l b : Addr} {items items2 : Array Value} {ns ms : List Key} {Q : Value → Shared → Prop} (hl : IsTup s.heap l items) (hb : IsTup s.heap b items2) (hi : Vals (ns.map kV) items.toList) (hj : Vals (ms.map kV) items2.toList) (hty : ns.map kTy = ms.map kTy)
    (hu : A.units < cLine) (h : Q (.bool (ksLt ns ms)) s) : wpAny (model prog w) A (compareOp .Lt (.ref l) (.ref b)) Q E s := by
  obtain ⟨⟨cls, dd, data, sl⟩, ho, hc, n, hd⟩ := id hl
  obtain ⟨⟨cls2, dd2, data2, sl2⟩, ho2, hc2, n2, hd2⟩ := id hb
  simp only at hc hd hc2 hd2
  subst hc hd hc2 hd2
  exact richCompare_meets_room (op := .Lt) ⟨_, ho, rfl⟩ ⟨_, ho2, rfl⟩ PySem.F.slot_tuple_lt PySem.F.entry_tuple_lt (PySem.F.args_tuple_lt_2 _ _) (tuple_lt_keys l b items items2 n n2 dd dd2 sl sl2 ns ms hi hj hty)
    ⟨ho, ho2, show Value.bool (ksLt ns ms) ≠ Value.notImplemented ∧ Q (.bool (ksLt ns ms)) s from ⟨(fun x => nomatch x), h⟩⟩ hu
/-! ### data as it is tracked -/
mutual
def RX (H : Hp) : PyData → V → Prop
  | .none, v => v = .non
  | .bool b, v => v = .bl b
  | .int i, v => v = .int i
  | .str x, v => v = .str x
  | .list ds, v => ∃ a vs, v = .ref a ∧ H a = some (.lst vs) ∧ RXs H ds vs
  | .tuple ds, v => ∃ a vs, v = .ref a ∧ H a = some (.tup vs) ∧ RXs H ds vs
  | .dict _, _ => False
def RXs (H : Hp) : List PyData → List V → Prop
  | [], vs => vs = []
  | d :: ds, vs => ∃ v r, vs = v :: r ∧ RX H d v ∧ RXs H ds r
end
mutual
theorem RX.same {H H' : Hp} (s : Same H H') : ∀ {d : PyData} {v : V}, RX H d v → RX H' d v
  | .none, _, h => h
  | .bool _, _, h => h
  | .int _, _, h => h
  | .str _, _, h => h
  | .list ds, _, h => by
    obtain ⟨a, vs, e, q, r⟩ := h
    exact ⟨a, vs, e, s _ _ q, RXs.same s r⟩
  | .tuple ds, _, h => by
    obtain ⟨a, vs, e, q, r⟩ := h
    exact ⟨a, vs, e, s _ _ q, RXs.same s r⟩
theorem RXs.same {H H' : Hp} (s : Same H H') : ∀ {ds : List PyData} {vs : List V}, RXs H ds vs → RXs H' ds vs
  | [], _, h => h
  | d :: ds, vs, h => by
    obtain ⟨v, r, e, q, t⟩ := h
    exact ⟨v, r, e, RX.same s q, RXs.same s t⟩
end
mutual
theorem RX.rd {K : PySem.W.Frag} {H : Hp} : ∀ {d : PyData} {v : V}, RX H d v → RD K H d v
  | .none, _, h => h
  | .bool _, _, h => h
  | .int _, _, h => h
  | .str _, _, h => h
  | .list ds, _, h => by
    obtain ⟨a, vs, e, q, r⟩ := h
    exact ⟨a, vs, e, SqL.of q, RXs.rd r⟩
  | .tuple ds, _, h => by
    obtain ⟨a, vs, e, q, r⟩ := h
    exact ⟨a, vs, e, SqT.of q, RXs.rd r⟩
theorem RXs.rd {K : PySem.W.Frag} {H : Hp} : ∀ {ds : List PyData} {vs : List V}, RXs H ds vs → RDs K H ds vs
  | [], _, h => h
  | d :: ds, vs, h => by
    obtain ⟨v, r, e, q, t⟩ := h
    exact ⟨v, r, e, RX.rd q, RXs.rd t⟩
end
theorem rxs_len {H : Hp} : ∀ {ds : List PyData} {vs : List V}, RXs H ds vs → vs.length = ds.length
  | [], _, h => by cases (show _ = [] from h); rfl
  | e :: ds, vs, h => by
    obtain ⟨u, r, e1, q, s⟩ := h
    subst e1
    rw [List.length_cons, List.length_cons, rxs_len s]
theorem rxs_at {H : Hp} : ∀ {ds : List PyData} {vs : List V} {i : Nat}, RXs H ds vs → i < ds.length → RX H (ds.getD i .none) (vs.getD i .non)
  | [], _, _, _, hi => absurd hi (Nat.not_lt_zero _)
  | x :: ds, vs, i, h, hi => by
    obtain ⟨u, r, e1, q, s⟩ := h
    subst e1
    cases i with
    | zero => exact q
    | succ i => exact (show RX H (ds.getD i .none) (r.getD i .non) from rxs_at s (by simpa using hi))
def tyD : PyData → Value
  | .none => .type "NoneType"
  | .bool _ => .type "bool"
  | .int _ => .type "int"
  | .str _ => .type "str"
  | .list _ => .type "list"
  | .tuple _ => .type "tuple"
  | .dict _ => .type "dict"
theorem RX.ty {K : PySem.W.Frag} {H : Hp} {d : PyData} {v : V} (h : RX H d v) : TyOf K H v (tyD d) := by
  cases d with
  | none => cases (show v = .non from h); exact .non
  | bool b => cases (show v = .bl b from h); exact .bl b
  | int i => cases (show v = .int i from h); exact .int i
  | str x => cases (show v = .str x from h); exact .str x
  | list ds => obtain ⟨a, vs, rfl, e, _⟩ := h; exact .lst e
  | tuple ds => obtain ⟨a, vs, rfl, e, _⟩ := h; exact .tup e
  | dict ds => exact (show False from h).elim
def isTup : PyData → Bool
  | .tuple _ => true
  | _ => false
def isInt : PyData → Bool
  | .int _ => true
  | _ => false
def isBoolD : PyData → Bool
  | .bool _ => true
  | _ => false
def isStrD : PyData → Bool
  | .str _ => true
  | _ => false
theorem kit_tup {K : PySem.W.Frag} {H : Hp} {d : PyData} {v : V} (h : RX H d v) : PySem.W.kitOne K (tyD d) (.type "tuple") = some (isTup d) := by cases d <;> first | rfl | exact (show False from h).elim
theorem kit_int {K : PySem.W.Frag} {H : Hp} {d : PyData} {v : V} (h : RX H d v) : PySem.W.kitOne K (tyD d) (.type "int") = some (isInt d || isBoolD d) := by cases d <;> first | rfl | exact (show False from h).elim
theorem kit_bool {K : PySem.W.Frag} {H : Hp} {d : PyData} {v : V} (h : RX H d v) : PySem.W.kitOne K (tyD d) (.type "bool") = some (isBoolD d) := by cases d <;> first | rfl | exact (show False from h).elim
theorem kit_str {K : PySem.W.Frag} {H : Hp} {d : PyData} {v : V} (h : RX H d v) : PySem.W.kitOne K (tyD d) (.type "str") = some (isStrD d) := by cases d <;> first | rfl | exact (show False from h).elim
def eqStr (z : Str) : PyData → Bool
  | .str w => decide (w = z)
  | _ => false
section
variable {X : Cx}
theorem op_lt_rows (hu : X.A.units < cLine) : OpR X (compareOp .Lt) (fun x y H Q => ∃ a b ks js, x = .ref a ∧ y = .ref b ∧ H a = some (.tup (ks.map kV)) ∧ H b = some (.tup (js.map kV)) ∧ ks.map kTy = js.map kTy ∧ Q (.bl (ksLt ks js)) H) := by
  intro pins s σ H x y v u Q I rx ry h
  obtain ⟨a, b, ks, js, rfl, rfl, ha, hb, ht, q⟩ := h
  cases rx
  cases ry
  obtain ⟨_, its, r1, p1⟩ := (show ObjOk X.prog X.w H s.heap a (.tup (ks.map kV)) from I.hok a _ ha)
  obtain ⟨_, its2, r2, p2⟩ := (show ObjOk X.prog X.w H s.heap b (.tup (js.map kV)) from I.hok b _ hb)
  exact lt_tupKeys p1 p2 (by simpa using r1) (by simpa using r2) ht hu (fin_bl I q rfl)
/-- x < y of keys, or of rows of keys -/
theorem op_lt_keys (hu : X.A.units < cLine) : OpR X (compareOp .Lt) (fun x y H Q => (∃ a b, x = kV a ∧ y = kV b ∧ kTy a = kTy b ∧ Q (.bl (kLt a b)) H) ∨ ∃ a b ks js, x = .ref a ∧ y = .ref b ∧ H a = some (.tup (ks.map kV)) ∧ H b = some (.tup (js.map kV)) ∧ ks.map kTy = js.map kTy ∧ Q (.bl (ksLt ks js)) H) := by
  refine OpR.or ?_ (op_lt_rows hu)
  intro pins s σ H x y v u Q I rx ry h
  obtain ⟨a, b, rfl, rfl, ht, q⟩ := h
  exact rcLt_key X.A s rx ry ht _ _ _ _ (fin_bl I q rfl)
/-- any thing beside a text -/
theorem op_eq_str0 (hu : X.A.units < cLine) : OpR X (compareOp .Eq) (fun x y H Q => ∃ d z, y = .str z ∧ RX H d x ∧ Q (.bl (eqStr z d)) H) := by
  intro pins s σ H x y v u Q I rx ry h
  obtain ⟨d, z, rfl, hd, q⟩ := h
  obtain ⟨t, rfl⟩ := ry
  cases d with
  | none => cases (show x = .non from hd); cases rx; exact PySem.EqNone.eq_none_str (fin_bl I q rfl)
  | bool b => cases (show x = .bl b from hd); cases rx; exact PySem.EqMixed.eq_bool_str (fin_bl I q rfl)
  | int i => cases (show x = .int i from hd); obtain ⟨t', rfl⟩ := rx; exact PySem.EqMixed.eq_int_str (fin_bl I q rfl)
  | str w => cases (show x = .str w from hd); obtain ⟨t', rfl⟩ := rx; exact eq_str (fin_bl I q (by unfold eqStr; rw [Bool.eq_iff_iff]; simp))
  | list ds =>
    obtain ⟨a, vs, rfl, e, _⟩ := hd
    cases rx
    obtain ⟨its, _, p1, _⟩ := I.list (SqL.of (K := X.K) e)
    exact SeqAt.RcAt.list_str z t p1.isList hu _ _ _ _ (fin_bl I q rfl)
  | tuple ds =>
    obtain ⟨a, vs, rfl, e, _⟩ := hd
    cases rx
    obtain ⟨its, _, p1, _⟩ := I.tuple (SqT.of (K := X.K) e)
    exact SeqAt.RcAt.tuple_str z t p1 hu _ _ _ _ (fin_bl I q rfl)
  | dict ds => exact (show False from hd).elim
theorem strEqAt {pins : List (Addr × Obj)} {σ : St} {H : Hp} {s : Shared} {A : Around} {x : V} {u : Value} {d : PyData} (I : Inv X pins σ H s) (hu : A.units < cLine) (hd : RX H d x) (rx : RelV x u) (w : Str) (t : Tok) : SeqAt.EqAt A s (.str w t) u (eqStr w d) := by
  cases d with
  | none => cases (show x = .non from hd); cases rx; exact SeqAt.EqAt.str_none w t
  | bool b => cases (show x = .bl b from hd); cases rx; exact SeqAt.EqAt.str_bool w t b
  | int i => cases (show x = .int i from hd); obtain ⟨t', rfl⟩ := rx; exact SeqAt.EqAt.str_int w t i t'
  | str z =>
    cases (show x = .str z from hd)
    obtain ⟨t', rfl⟩ := rx
    have e : eqStr w (.str z) = (w == z) := by
      show decide (z = w) = (w == z)
      by_cases h : z = w
      · subst h
        simp
      · rw [decide_eq_false h]
        exact (beq_eq_false_iff_ne.mpr (Ne.symm h)).symm
    rw [e]
    exact SeqAt.EqAt.str_str w t z t'
  | list ds =>
    obtain ⟨a, vs, rfl, e, _⟩ := hd
    cases rx
    obtain ⟨its, _, p1, _⟩ := I.list (SqL.of (K := X.K) e)
    exact SeqAt.EqAt.str_list w t p1.isList hu
  | tuple ds =>
    obtain ⟨a, vs, rfl, e, _⟩ := hd
    cases rx
    obtain ⟨its, _, p1, _⟩ := I.tuple (SqT.of (K := X.K) e)
    exact SeqAt.EqAt.str_tuple w t p1 hu
  | dict ds => exact (show False from hd).elim
def inStrs (zs : List Str) (d : PyData) : Bool := zs.any fun z => eqStr z d
def hitStr (d : PyData) : Value → Bool
  | .str w _ => eqStr w d
  | _ => false
theorem any_hit {d : PyData} : ∀ {zs : List Str} {us : List Value}, Vals (zs.map V.str) us → us.any (hitStr d) = inStrs zs d
  | [], _, h => by cases h; rfl
  | z :: zs, _, h => by
    cases h with
    | cons r rr =>
      obtain ⟨t, rfl⟩ := r
      have ih := any_hit (d := d) rr
      unfold inStrs at ih ⊢
      rw [List.any_cons, List.any_cons, ih]
      rfl
theorem all_strs : ∀ {zs : List Str} {us : List Value} {y : Value}, Vals (zs.map V.str) us → y ∈ us → ∃ w t, y = .str w t
  | [], _, _, h, hy => by cases h; cases hy
  | z :: zs, _, y, h, hy => by
    cases h with
    | cons r rr =>
      obtain ⟨t, rfl⟩ := r
      rcases List.mem_cons.mp hy with rfl | hy
      · exact ⟨z, t, rfl⟩
      · exact all_strs rr hy
theorem op_in_strs (hu : X.A.units + 1 < cLine) : OpR X (compareOp .In) (fun x y H Q => ∃ d l zs, y = .ref l ∧ H l = some (.lst (zs.map V.str)) ∧ RX H d x ∧ Q (.bl (inStrs zs d)) H) := by
  intro pins s σ H x y v u Q I rx ry h
  obtain ⟨d, l, zs, rfl, hl, hd, q⟩ := h
  cases ry
  obtain ⟨its, r1, p1, _⟩ := I.list (SqL.of (K := X.K) hl)
  refine SeqAt.in_listAt (hitStr d) p1.isList (fun y hy => ?_) ?_
  · obtain ⟨w, t, rfl⟩ := all_strs r1 (by simpa using hy)
    exact strEqAt I hu hd rx w t
  · refine fin_bl I q ?_
    rw [← any_hit r1]
    simp
theorem op_notin_strs (hu : X.A.units + 1 < cLine) : OpR X (compareOp .NotIn) (fun x y H Q => ∃ d l zs, y = .ref l ∧ H l = some (.lst (zs.map V.str)) ∧ RX H d x ∧ Q (.bl (!inStrs zs d)) H) := by
  intro pins s σ H x y v u Q I rx ry h
  obtain ⟨d, l, zs, rfl, hl, hd, q⟩ := h
  cases ry
  obtain ⟨its, r1, p1, _⟩ := I.list (SqL.of (K := X.K) hl)
  refine SeqAt.notIn_listAt (hitStr d) p1.isList (fun y hy => ?_) ?_
  · obtain ⟨w, t, rfl⟩ := all_strs r1 (by simpa using hy)
    exact strEqAt I hu hd rx w t
  · refine fin_bl I q ?_
    rw [← any_hit r1]
    simp
end
end L2

set_option maxHeartbeats 4000000
namespace L2
open PySem PySem.Spec PyProof.Rows PySem.W
/-! ### a sort sorts -/
structure Ord (lt : Nat → Nat → Bool) : Prop where
  asym : ∀ a b, lt a b = true → lt b a = false
  trans : ∀ a b c, lt b a = false → lt c b = false → lt c a = false
section
variable {N : Nat} {lt : Nat → Nat → Bool} (O : Ord lt)
abbrev at0 (p : Array Nat) (i : Nat) : Nat := p.getD i 0
/-- the first n rise (they may be alike) -/
def Up (lt : Nat → Nat → Bool) (p : Array Nat) (n : Nat) : Prop := ∀ i j, i < j → j < n → lt (at0 p j) (at0 p i) = false
def Dn (lt : Nat → Nat → Bool) (p : Array Nat) (n : Nat) : Prop := ∀ i j, i < j → j < n → lt (at0 p i) (at0 p j) = false
/-- from i to j all alike -/
def Lk (lt : Nat → Nat → Bool) (p : Array Nat) (i j : Nat) : Prop := ∀ a b, i ≤ a → a < j → i ≤ b → b < j → lt (at0 p a) (at0 p b) = false
theorem at0_eq (p : Array Nat) (i : Nat) : at0 p i = (p[i]?).getD 0 := Array.getD_eq_getD_getElem?
theorem at_rev {p : Array Nat} {i j : Nat} (hj : j ≤ p.size) (k : Nat) : at0 (kas_rev p i j) k = if i ≤ k ∧ k < j then at0 p (i + j - 1 - k) else at0 p k := by
  rw [at0_eq, at0_eq, at0_eq]
  unfold kas_rev
  rw [getElem?_mirror_all hj]
  split <;> rfl
theorem at_bub {p : Array Nat} {k l : Nat} (hk : k < p.size) (hl : l ≤ k) (x : Nat) : at0 (bubble p k (k - l)) x = if x = l then at0 p k else if l < x ∧ x ≤ k then at0 p (x - 1) else at0 p x := by
  rw [at0_eq, at0_eq, at0_eq, at0_eq, getElem?_bubble hk (k - l) (by omega)]
  have e : k - (k - l) = l := by omega
  rw [e]
  split
  · rfl
  · split <;> rfl
theorem KP.size {p : Array Nat} (h : KP N p) : p.size = N := by
  have := h.length_eq
  rw [List.length_range] at this
  simpa using this
include O
theorem Ord.irr (a : Nat) : lt a a = false := by
  cases e : lt a a with
  | false => rfl
  | true => rw [O.asym a a e] at e; cases e
theorem Up.succ {p : Array Nat} {n : Nat} (h : Up lt p n) (hn : 1 ≤ n) (hs : lt (at0 p n) (at0 p (n - 1)) = false) : Up lt p (n + 1) := fun i j hij hj => by
  by_cases e : j < n
  · exact h i j hij e
  · have ej : j = n := by omega
    subst ej
    by_cases ei : i = j - 1
    · rw [ei]; exact hs
    · exact O.trans _ _ _ (h i (j - 1) (by omega) (by omega)) hs
theorem Dn.succ {p : Array Nat} {n : Nat} (h : Dn lt p n) (hn : 1 ≤ n) (hs : lt (at0 p (n - 1)) (at0 p n) = false) : Dn lt p (n + 1) := fun i j hij hj => by
  by_cases e : j < n
  · exact h i j hij e
  · have ej : j = n := by omega
    subst ej
    by_cases ei : i = j - 1
    · rw [ei]; exact hs
    · exact O.trans _ _ _ hs (h i (j - 1) (by omega) (by omega))
/-- a stretch of like ones turned round stays what it is -/
theorem Dn.like {p : Array Nat} {n i j : Nat} (h : Dn lt p n) (l : Lk lt p i j) (hj : j ≤ p.size) (hn : j ≤ n) : Dn lt (kas_rev p i j) n := fun a b hab hb => by
  rw [at_rev hj, at_rev hj]
  by_cases ha : i ≤ a ∧ a < j
  · rw [if_pos ha]
    by_cases hb' : i ≤ b ∧ b < j
    · rw [if_pos hb']
      exact l _ _ (by omega) (by omega) (by omega) (by omega)
    · rw [if_neg hb']
      exact h _ _ (by omega) (by omega)
  · rw [if_neg ha]
    by_cases hb' : i ≤ b ∧ b < j
    · rw [if_pos hb']
      exact h _ _ (by omega) (by omega)
    · rw [if_neg hb']
      exact h _ _ (by omega) (by omega)
theorem Dn.turn {p : Array Nat} {n : Nat} (h : Dn lt p n) (hn : n ≤ p.size) : Up lt (kas_rev p 0 n) n := fun a b hab hb => by
  rw [at_rev hn, at_rev hn, if_pos ⟨by omega, by omega⟩, if_pos ⟨by omega, by omega⟩]
  exact h _ _ (by omega) (by omega)
theorem so_asc {p : Array Nat} (h : KP N p) (h0 : 0 < N) : ∀ f n, 1 ≤ n → Up lt p n → kgood N lt (kas_asc p f n) fun m => Up lt p m ∧ n ≤ m ∧ m ≤ n + f ∧ (m = n + f ∨ lt (at0 p m) (at0 p (m - 1)) = true)
  | 0, n, hn, u => ⟨u, Nat.le_refl _, Nat.le_refl _, .inl rfl⟩
  | f + 1, n, hn, u => by
    refine ⟨h.ix h0 _, h.ix h0 _, ?_⟩
    dsimp only
    split
    · rename_i e
      exact ⟨u, Nat.le_refl _, by omega, .inr e⟩
    · rename_i e
      refine (so_asc h h0 f (n + 1) (by omega) (u.succ O hn (by simpa using e))).mono fun m hm => ?_
      obtain ⟨a, b, c, d⟩ := hm
      refine ⟨a, by omega, by omega, ?_⟩
      rcases d with d | d
      · left; omega
      · exact .inr d
theorem so_desc (h0 : 0 < N) : ∀ f (p : Array Nat) n q, KP N p → 1 ≤ n → q < n → n + f ≤ N → Dn lt p n → Lk lt p (n - (q + 1)) n → kgood N lt (kas_desc f p n q) fun r => KP N r.1 ∧ 1 ≤ r.2.1 ∧ r.2.2 < r.2.1 ∧ r.2.1 ≤ n + f ∧ Dn lt r.1 r.2.1 ∧ Lk lt r.1 (r.2.1 - (r.2.2 + 1)) r.2.1
  | 0, p, n, q, h, hn, hq, hf, d, l => ⟨h, hn, hq, Nat.le_refl _, d, l⟩
  | f + 1, p, n, q, h, hn, hq, hf, d, l => by
    have sz := h.size
    have one : ∀ (p : Array Nat), Lk lt p (n + 1 - (0 + 1)) (n + 1) := fun p a b h1 h2 h3 h4 => by
      have e1 : a = n := by omega
      have e2 : b = n := by omega
      rw [e1, e2]
      exact O.irr _
    refine ⟨h.ix h0 _, h.ix h0 _, ?_⟩
    dsimp only
    split
    · rename_i e
      have e' : lt (at0 p (n - 1)) (at0 p n) = false := O.asym _ _ e
      split
      · have hj : n ≤ p.size := by omega
        have dl := d.like O l hj (Nat.le_refl _)
        have hs : lt (at0 (kas_rev p (n - (q + 1)) n) (n - 1)) (at0 (kas_rev p (n - (q + 1)) n) n) = false := by
          rw [at_rev hj, at_rev hj, if_pos ⟨by omega, by omega⟩, if_neg (by omega)]
          exact O.trans _ _ _ e' (l _ _ (by omega) (by omega) (by omega) (by omega))
        refine (so_desc h0 f _ (n + 1) 0 (h.rev _ _) (by omega) (by omega) (by omega) (dl.succ O hn hs) (one _)).mono fun r hr => ?_
        obtain ⟨a1, a2, a3, a4, a5, a6⟩ := hr
        exact ⟨a1, a2, a3, by omega, a5, a6⟩
      · refine (so_desc h0 f _ (n + 1) 0 h (by omega) (by omega) (by omega) (d.succ O hn e') (one _)).mono fun r hr => ?_
        obtain ⟨a1, a2, a3, a4, a5, a6⟩ := hr
        exact ⟨a1, a2, a3, by omega, a5, a6⟩
    · rename_i e
      have e1 : lt (at0 p n) (at0 p (n - 1)) = false := by simpa using e
      refine ⟨h.ix h0 _, h.ix h0 _, ?_⟩
      dsimp only
      split
      · exact ⟨h, hn, hq, (by show n ≤ n + (f + 1); omega), d, l⟩
      · rename_i e'
        have e2 : lt (at0 p (n - 1)) (at0 p n) = false := by simpa using e'
        have l2 : Lk lt p (n + 1 - (q + 1 + 1)) (n + 1) := fun a b h1 h2 h3 h4 => by
          have e3 : n + 1 - (q + 1 + 1) = n - (q + 1) := by omega
          rw [e3] at h1 h3
          by_cases ha : a = n
          · by_cases hb : b = n
            · rw [ha, hb]; exact O.irr _
            · rw [ha]
              exact O.trans _ _ _ (l (n - 1) b (by omega) (by omega) (by omega) (by omega)) e1
          · by_cases hb : b = n
            · rw [hb]
              exact O.trans _ _ _ e2 (l a (n - 1) (by omega) (by omega) (by omega) (by omega))
            · exact l a b (by omega) (by omega) (by omega) (by omega)
        refine (so_desc h0 f _ (n + 1) (q + 1) h (by omega) (by omega) (by omega) (d.succ O hn e2) l2).mono fun r hr => ?_
        obtain ⟨a1, a2, a3, a4, a5, a6⟩ := hr
        exact ⟨a1, a2, a3, by omega, a5, a6⟩
theorem so_tail3 (h0 : 0 < N) {p : Array Nat} (h : KP N p) (n : Nat) (hn : 1 ≤ n) (hN : n ≤ N) (d : Dn lt p n) : kgood N lt (kas_tail3 n N p) fun r => KP N r.2 ∧ Up lt r.2 r.1 ∧ 1 ≤ r.1 ∧ r.1 ≤ N := by
  have sz := h.size
  refine kgood.bind ((so_asc O (h.rev 0 n) h0 (N - n) n hn (d.turn O (by omega))).mono fun m hm => ?_)
  exact ⟨h.rev 0 n, hm.1, by omega, by omega⟩
theorem so_descPart (h0 : 0 < N) {p : Array Nat} (h : KP N p) (n : Nat) (hn : 1 ≤ n) (hN : n + 1 ≤ N) (d : Dn lt p (n + 1)) : kgood N lt (kas_descPart n N p) fun r => KP N r.2 ∧ Up lt r.2 r.1 ∧ 1 ≤ r.1 ∧ r.1 ≤ N := by
  have l0 : Lk lt p (n + 1 - (0 + 1)) (n + 1) := fun a b h1 h2 h3 h4 => by
    have e1 : a = n := by omega
    have e2 : b = n := by omega
    rw [e1, e2]
    exact O.irr _
  refine kgood.bind ((so_desc O h0 (N - (n + 1)) p (n + 1) 0 h (by omega) (by omega) (by omega) d l0).mono fun r hr => ?_)
  obtain ⟨a1, a2, a3, a4, a5, a6⟩ := hr
  have sz := a1.size
  split
  · exact so_tail3 O h0 (a1.rev _ _) _ a2 (by omega) (a5.like O a6 (by omega) (Nat.le_refl _))
  · exact so_tail3 O h0 a1 _ a2 (by omega) a5
theorem so_count (h0 : 0 < N) {p : Array Nat} (h : KP N p) : kgood N lt (kas_count N p) fun r => KP N r.2 ∧ Up lt r.2 r.1 ∧ 1 ≤ r.1 ∧ r.1 ≤ N := by
  have sz := h.size
  refine kgood.bind ((so_asc O h h0 (N - 1) 1 (Nat.le_refl _) (fun i j hij hj => absurd hj (by omega))).mono fun n hn => ?_)
  obtain ⟨u, h1, h2, h3⟩ := hn
  split
  · rename_i e
    have := eq_of_beq e
    exact ⟨h, u, h1, by show n ≤ N; omega⟩
  · rename_i e
    have en : n ≠ N := fun x => e (by rw [x]; simp)
    have hl : lt (at0 p n) (at0 p (n - 1)) = true := by
      rcases h3 with h3 | h3
      · omega
      · exact h3
    have hl' := O.asym _ _ hl
    split
    · refine ⟨h.ix h0 _, h.ix h0 _, ?_⟩
      dsimp only
      split
      · exact ⟨h, u, h1, by show n ≤ N; omega⟩
      · rename_i e'
        have e1 : lt (at0 p 0) (at0 p (n - 1)) = false := by simpa using e'
        have like : Lk lt p 0 n := fun a b _ ha _ hb => by
          -- a and b lie between the first and the last, which are alike
          have g1 : lt (at0 p a) (at0 p 0) = false := by
            by_cases hz : a = 0
            · rw [hz]; exact O.irr _
            · exact u 0 a (by omega) ha
          have g2 : lt (at0 p (n - 1)) (at0 p b) = false := by
            by_cases hz : b = n - 1
            · rw [hz]; exact O.irr _
            · exact u b (n - 1) (by omega) (by omega)
          have g3 : lt (at0 p 0) (at0 p b) = false := O.trans (at0 p b) (at0 p (n - 1)) (at0 p 0) g2 e1
          have g4 : lt (at0 p a) (at0 p (n - 1)) = false := by
            by_cases hz : a = n - 1
            · rw [hz]; exact O.irr _
            · cases q : lt (at0 p a) (at0 p (n - 1)) with
              | false => rfl
              | true =>
                exfalso
                have k1 : lt (at0 p 0) (at0 p (n - 1)) = false := e1
                have k2 : lt (at0 p a) (at0 p 0) = false := g1
                have := O.trans (at0 p (n - 1)) (at0 p 0) (at0 p a) k1 k2
                rw [this] at q
                cases q
          exact O.trans (at0 p b) (at0 p (n - 1)) (at0 p a) g2 g4
        have dn : Dn lt p n := fun i j hij hj => like i j (Nat.zero_le _) (by omega) (Nat.zero_le _) hj
        have dr := dn.like O like (by omega) (Nat.le_refl _)
        refine so_descPart O h0 (h.rev 0 n) n h1 (by omega) (dr.succ O h1 ?_)
        rw [at_rev (by omega), at_rev (by omega), if_pos ⟨by omega, by omega⟩, if_neg (by omega)]
        exact O.trans _ _ _ hl' (like _ _ (by omega) (by omega) (by omega) (by omega))
    · have e1 : n = 1 := by omega
      subst e1
      refine so_descPart O h0 h 1 (Nat.le_refl _) (by omega) fun i j hij hj => ?_
      have ei : i = 0 := by omega
      have ej : j = 1 := by omega
      rw [ei, ej]
      exact hl'
theorem so_place (h0 : 0 < N) {p : Array Nat} (h : KP N p) (k : Nat) (u : Up lt p k) : ∀ f l r, l ≤ r → r ≤ k → r - l ≤ f → (∀ i, i < l → lt (at0 p k) (at0 p i) = false) → (∀ i, r ≤ i → i < k → lt (at0 p i) (at0 p k) = false) →
    kgood N lt (kas_place p k f l r) fun m => m ≤ k ∧ (∀ i, i < m → lt (at0 p k) (at0 p i) = false) ∧ ∀ i, m ≤ i → i < k → lt (at0 p i) (at0 p k) = false
  | 0, l, r, hlr, hr, hf, g1, g2 => by
    have e : l = r := by omega
    subst e
    exact ⟨hr, g1, g2⟩
  | f + 1, l, r, hlr, hr, hf, g1, g2 => by
    unfold kas_place
    split
    · have e : l = r := by omega
      subst e
      exact ⟨hr, g1, g2⟩
    · refine ⟨h.ix h0 _, h.ix h0 _, ?_⟩
      dsimp only
      split
      · rename_i e
        have e' := O.asym _ _ e
        refine so_place h0 h k u f l ((l + r) / 2) (by omega) (by omega) (by omega) g1 fun i hi hk => ?_
        by_cases hz : i = (l + r) / 2
        · rw [hz]; exact e'
        · exact O.trans _ _ _ e' (u _ i (by omega) hk)
      · rename_i e
        have e' : lt (at0 p k) (at0 p ((l + r) / 2)) = false := by simpa using e
        refine so_place h0 h k u f ((l + r) / 2 + 1) r (by omega) hr (by omega) (fun i hi => ?_) g2
        by_cases hz : i = (l + r) / 2
        · rw [hz]; exact e'
        · exact O.trans _ _ _ (u i _ (by omega) (by omega)) e'
theorem so_bin (h0 : 0 < N) : ∀ f (p : Array Nat) k, KP N p → k + f ≤ N → Up lt p k → kgood N lt (kas_bin f p k) fun r => KP N r ∧ Up lt r (k + f)
  | 0, p, k, h, hk, u => ⟨h, u⟩
  | f + 1, p, k, h, hk, u => by
    have sz := h.size
    refine kgood.bind ((so_place O h0 h k u k 0 k (Nat.zero_le _) (Nat.le_refl _) (by omega) (fun i hi => absurd hi (Nat.not_lt_zero _)) (fun i h1 h2 => absurd h2 (by omega))).mono fun l hl => ?_)
    obtain ⟨hlk, g1, g2⟩ := hl
    have ub : Up lt (bubble p k (k - l)) (k + 1) := fun i j hij hj => by
      rw [at_bub (by omega) hlk, at_bub (by omega) hlk]
      by_cases hi : i = l
      · rw [if_neg (by omega), if_pos ⟨by omega, by omega⟩, if_pos hi]
        exact g2 _ (by omega) (by omega)
      · by_cases hj' : j = l
        · rw [if_pos hj', if_neg hi, if_neg (by omega)]
          exact g1 _ (by omega)
        · by_cases hli : l < i
          · rw [if_neg hj', if_pos ⟨by omega, by omega⟩, if_neg hi, if_pos ⟨hli, by omega⟩]
            exact u _ _ (by omega) (by omega)
          · by_cases hlj : l < j
            · rw [if_neg hj', if_pos ⟨hlj, by omega⟩, if_neg hi, if_neg (by omega)]
              exact u _ _ (by omega) (by omega)
            · rw [if_neg hj', if_neg (by omega), if_neg hi, if_neg (by omega)]
              exact u _ _ (by omega) (by omega)
    refine (so_bin h0 f _ (k + 1) (h.bub _ _) (by omega) ub).mono fun r hr => ?_
    have e : k + (f + 1) = k + 1 + f := by omega
    rw [e]
    exact hr
theorem so_sort (h0 : 0 < N) : kgood N lt (kas_sort N) fun p => KP N p ∧ Up lt p N := by
  refine kgood.bind ((so_count O h0 (p := List.toArray (List.range N)) (List.Perm.refl _)).mono fun r hr => ?_)
  obtain ⟨a1, a2, a3, a4⟩ := hr
  split
  · have e : max r.1 1 = r.1 := by omega
    rw [e]
    refine (so_bin O h0 (N - r.1) r.2 r.1 a1 (by omega) a2).mono fun p hp => ?_
    have e2 : r.1 + (N - r.1) = N := by omega
    rw [e2] at hp
    exact hp
  · have e : r.1 = N := by omega
    rw [e] at a2
    exact ⟨a1, a2⟩
end
end L2

set_option maxHeartbeats 4000000
namespace L2
open PySem PySem.Spec PyProof.Rows PySem.W
/-! ### keys are ordered -/
theorem kl_asym {a b : Key} (h : kLt a b = true) : kLt b a = false := by
  cases a with
  | inl i =>
    cases b with
    | inr y => cases h
    | inl j => have := of_decide_eq_true h; exact decide_eq_false (by omega)
  | inr x =>
    cases b with
    | inl y => cases h
    | inr y => exact KeyOrd.klt_asymm (O := strKind.toKeyOrd) (a := x.cps.toList) (b := y.cps.toList) h
theorem kl_irr (a : Key) : kLt a a = false := by
  cases e : kLt a a with
  | false => rfl
  | true => rw [kl_asym e] at e; cases e
theorem kl_neg {a b c : Key} (t1 : kTy a = kTy b) (t2 : kTy b = kTy c) (h : kLt a c = true) : kLt a b = true ∨ kLt b c = true := by
  cases a with
  | inl i =>
    cases b with
    | inr y => cases t1
    | inl j =>
      cases c with
      | inr y => cases t2
      | inl k =>
        have h1 := of_decide_eq_true h
        by_cases h2 : i < j
        · exact .inl (decide_eq_true h2)
        · exact .inr (decide_eq_true (by omega))
  | inr x =>
    cases b with
    | inl y => cases t1
    | inr y =>
      cases c with
      | inl k => cases t2
      | inr z => exact strKind.negTrans x.cps.toList y.cps.toList z.cps.toList h
theorem str_of_list {x y : Str} (h : x.cps.toList = y.cps.toList) : x = y := by
  cases x
  cases y
  simp at h
  simp [h]
theorem kl_tot {a b : Key} (t : kTy a = kTy b) (h1 : kLt a b = false) (h2 : kLt b a = false) : a = b := by
  cases a with
  | inl i =>
    cases b with
    | inr y => cases t
    | inl j =>
      have g1 := of_decide_eq_false h1
      have g2 := of_decide_eq_false h2
      have : i = j := by omega
      rw [this]
  | inr x =>
    cases b with
    | inl y => cases t
    | inr y =>
      have := strKind.total x.cps.toList y.cps.toList h1 h2
      rw [str_of_list this]
theorem ks_asym : ∀ {a b : List Key}, ksLt a b = true → ksLt b a = false
  | [], _, h => by unfold ksLt at h; cases h
  | _ :: _, [], h => by unfold ksLt at h; cases h
  | a :: r, b :: t, h => by
    unfold ksLt at h ⊢
    by_cases e : a = b
    · rw [if_pos e] at h
      rw [if_pos e.symm]
      exact ks_asym h
    · rw [if_neg e] at h
      rw [if_neg (Ne.symm e)]
      exact kl_asym h
theorem ks_neg : ∀ {a b c : List Key}, a.map kTy = b.map kTy → b.map kTy = c.map kTy → ksLt a c = true → ksLt a b = true ∨ ksLt b c = true
  | [], _, _, _, _, h => by unfold ksLt at h; cases h
  | _ :: _, _, [], _, _, h => by unfold ksLt at h; cases h
  | _ :: _, [], _ :: _, t, _, _ => by cases t
  | a :: r, b :: u, c :: t, t1, t2, h => by
    have q1 := (List.cons.inj t1).1
    have q2 := (List.cons.inj t2).1
    have q3 := (List.cons.inj t1).2
    have q4 := (List.cons.inj t2).2
    by_cases e : a = c
    · subst e
      have h' : ksLt r t = true := by
        unfold ksLt at h
        rwa [if_pos rfl] at h
      by_cases e2 : a = b
      · subst e2
        rcases ks_neg q3 q4 h' with g | g
        · left; unfold ksLt; rw [if_pos rfl]; exact g
        · right; unfold ksLt; rw [if_pos rfl]; exact g
      · cases g : kLt a b with
        | true => left; unfold ksLt; rw [if_neg e2]; exact g
        | false =>
          right
          unfold ksLt
          rw [if_neg (Ne.symm e2)]
          cases g2 : kLt b a with
          | true => rfl
          | false => exact absurd (kl_tot q1 g g2) e2
    · have h' : kLt a c = true := by
        unfold ksLt at h
        rwa [if_neg e] at h
      rcases kl_neg q1 q2 h' with g | g
      · left
        unfold ksLt
        rw [if_neg (fun z => by rw [z, kl_irr] at g; cases g)]
        exact g
      · right
        unfold ksLt
        rw [if_neg (fun z => by rw [z, kl_irr] at g; cases g)]
        exact g
theorem ks_tot : ∀ {a b : List Key}, a.map kTy = b.map kTy → ksLt a b = false → ksLt b a = false → a = b
  | [], [], _, _, _ => rfl
  | [], _ :: _, t, _, _ => by cases t
  | _ :: _, [], t, _, _ => by cases t
  | a :: r, b :: u, t, h1, h2 => by
    have q1 := (List.cons.inj t).1
    have q2 := (List.cons.inj t).2
    by_cases e : a = b
    · subst e
      unfold ksLt at h1 h2
      rw [if_pos rfl] at h1 h2
      rw [ks_tot q2 h1 h2]
    · unfold ksLt at h1 h2
      rw [if_neg e] at h1
      rw [if_neg (Ne.symm e)] at h2
      exact absurd (kl_tot q1 h1 h2) e
/-- the i-th row's keys, any other one's beyond -/
def rowOr (rows : List Row) (i : Nat) : List Key := (rows.getD i (rows.headD (0, []))).2
def rowLt (rows : List Row) (i j : Nat) : Bool := ksLt (rowOr rows i) (rowOr rows j)
theorem rowOr_ty {rows : List Row} {sh : List Bool} (h : ∀ r ∈ rows, r.2.map kTy = sh) (h0 : 0 < rows.length) (i : Nat) : (rowOr rows i).map kTy = sh := by
  unfold rowOr
  by_cases hi : i < rows.length
  · have : rows.getD i (rows.headD (0, [])) = rows[i] := by simp [List.getD, hi]
    rw [this]
    exact h _ (List.getElem_mem hi)
  · have : rows.getD i (rows.headD (0, [])) = rows.headD (0, []) := by simp [List.getD, Nat.le_of_not_lt hi]
    rw [this]
    cases rows with
    | nil => simp at h0
    | cons r t => exact h r List.mem_cons_self
theorem rows_ord {rows : List Row} {sh : List Bool} (h : ∀ r ∈ rows, r.2.map kTy = sh) (h0 : 0 < rows.length) : Ord (rowLt rows) where
  asym := fun a b => ks_asym
  trans := fun a b c h1 h2 => by
    unfold rowLt at h1 h2 ⊢
    cases e : ksLt (rowOr rows c) (rowOr rows a) with
    | false => rfl
    | true =>
      have t : ∀ i j, (rowOr rows i).map kTy = (rowOr rows j).map kTy := fun i j => (rowOr_ty h h0 i).trans (rowOr_ty h h0 j).symm
      rcases ks_neg (t c b) (t b a) e with g | g
      · rw [h2] at g; cases g
      · rw [h1] at g; cases g
theorem rows_good {rows : List Row} {sh : List Bool} {n : Nat} (h : ∀ r ∈ rows, r.2.map kTy = sh) (hn : n = rows.length) (h0 : 0 < n) : kgood n (rowLt rows) (kas_sort n) fun p => KP n p ∧ (p.toList.map fun i => rowOr rows i).Pairwise (fun a b => ksLt b a = false) := by
  subst hn
  refine (so_sort (rows_ord h h0) h0).mono fun p hp => ⟨hp.1, ?_⟩
  rw [List.pairwise_map, List.pairwise_iff_getElem]
  intro i j hi hj hij
  have sz := hp.1.size
  have hj' : j < p.size := by simpa using hj
  have hi' : i < p.size := by simpa using hi
  have := hp.2 i j hij (by omega)
  unfold at0 at this
  have e1 : p.getD j 0 = p.toList[j] := by simp [Array.getD, hj']
  have e2 : p.getD i 0 = p.toList[i] := by simp [Array.getD, hi']
  rw [e1, e2] at this
  exact this
theorem rows_small {rows : List Row} {n : Nat} (h : n < 2) : ((List.range n).map fun i => rowOr rows i).Pairwise (fun a b => ksLt b a = false) := by
  match n, h with
  | 0, _ => exact .nil
  | 1, _ => exact List.pairwise_singleton _ _
theorem rows_up {rows : List Row} {p : List Nat} (h : p.Perm (List.range rows.length)) (hr : (p.map fun i => rowOr rows i).Pairwise (fun a b => ksLt b a = false)) : ((p.map fun i => rows.getD i (0, [])).map (·.2)).Pairwise (fun a b => ksLt b a = false) := by
  have e : ((p.map fun i => rows.getD i (0, [])).map (·.2)) = p.map fun i => rowOr rows i := by
    rw [List.map_map]
    refine List.map_congr_left fun i hi => ?_
    have hlt := List.mem_range.mp (h.mem_iff.mp hi)
    simp [rowOr, List.getD, hlt]
  rw [e]
  exact hr
section
variable {X : Cx}
theorem rows_ltO {prog : Program} {w : World} {A : Around} {s' : Shared} {rows : List Row} {sh : List Bool} (ha : ∀ r ∈ rows, TupAt s'.heap r ∧ r.2.map kTy = sh) {i j : Nat} (hi : i < rows.length) (hj : j < rows.length) (C : Bool → Shared → Prop) (q : C (rowLt rows i j) s') :
    kas_ask prog w A (tuples' true) (rows.map fun r => Value.ref r.1) i j C s' := by
  refine rows_lt ha hi hj C ?_
  have e1 : rowOr rows i = rowAt rows i := by simp [rowOr, rowAt, List.getD, hi]
  have e2 : rowOr rows j = rowAt rows j := by simp [rowOr, rowAt, List.getD, hj]
  unfold rowLt at q
  rw [e1, e2] at q
  exact q
/-- sorted(xs), a list of rows of keys -/
theorem call_sorted_rowsO : CallR X (.builtin "sorted") (fun xs H Q => ∃ (p : Addr) (rows : List Row) (b : Bool) (sh : List Bool), xs = [.ref p] ∧ SqL X.K H p (rows.map fun r => V.ref r.1) ∧ rows.length < 64 ∧ (∀ r ∈ rows, H r.1 = some (.tup (r.2.map kV)) ∧ r.2.map kTy = b :: sh) ∧
    ∀ (l : Addr) (rows' : List Row), H l = none → rows'.Perm rows → (rows'.map (·.2)).Pairwise (fun a b => ksLt b a = false) → Q (.ref l) (upd H l (.lst (rows'.map fun r => V.ref r.1)))) := by
  intro pins s σ H xs us Q I r h
  obtain ⟨p, rows, b, sh, rfl, hp, h64, ha, q⟩ := h
  obtain ⟨u, rfl, ru⟩ := vals1 r
  cases ru
  obtain ⟨its, rv, pl, _⟩ := I.list hp
  have e0 := refs_of rv
  subst e0
  have tu : ∀ r ∈ rows, TupAt s.heap r ∧ r.2.map kTy = b :: sh := fun r hr => by
    obtain ⟨_, its, v, t⟩ := (show ObjOk X.prog X.w H s.heap r.1 (.tup (r.2.map kV)) from I.hok r.1 _ (ha r hr).1)
    exact ⟨⟨its, v, t⟩, (ha r hr).2⟩
  refine sorted_asks (κ := tuples' true) (lt := rowLt rows) (vs := rows.map fun r => Value.ref r.1) (Rl := fun p => (p.map fun i => rowOr rows i).Pairwise (fun a b => ksLt b a = false)) (by simpa using h64) (fun h2 => rows_good (sh := b :: sh) (fun r hr => (tu r hr).2) (by rw [List.length_map]) (by omega)) (fun h2 => rows_small (by rw [List.length_map] at h2 ⊢; omega)) (fun R hR => ?_) (fun h2 s' k Q' q' => rows_kind (fun r hr => ⟨(tu r hr).1.keep k, (tu r hr).2⟩) (by rw [List.length_map] at h2; omega) Q' q')
    (fun h2 s' k i j hi hj C q' => rows_ltO (sh := b :: sh) (fun r hr => ⟨(tu r hr).1.keep k, (tu r hr).2⟩) (by simpa using hi) (by simpa using hj) C q') fun p D h' c tk hp' hrl hD k e => ?_
  · refine collect_list pl.isList (hR _ _ s.toks ?_ (fun b o e => ?_) rfl)
    · rw [Heap.size_update, size_push']
      omega
    · have hlt : b ≠ s.heap.objs.size := Nat.ne_of_lt (Heap.lt_size e)
      rw [Heap.get?_update_ne _ _ _ _ hlt]
      exact Heap.get?_push_of_some _ e
  · rw [List.length_map] at hp'
    rw [perm_vals hp'] at e
    refine ⟨.ref D, _, I.laid (o := .lst ((p.map fun i => rows.getD i (0, [])).map fun r => V.ref r.1)) k hD ⟨?_, _, c, vals_refs _, by simpa [seqObj] using e⟩, rfl, q D _ (I.hok.fresh hD) (perm_rows hp') (rows_up hp' hrl)⟩
    rw [List.length_map, List.length_map, hp'.length_eq, List.length_range, sizeLine_eq]
    omega
/-- sorted(d), a dict by rows of keys -/
theorem call_sorted_dTO (hc : X.calm = true) : CallR X (.builtin "sorted") (fun xs H Q => ∃ (d : Addr) (kvs : List (List Key × V)) (b : Bool) (sh : List Bool), xs = [.ref d] ∧ H d = some (.dT kvs) ∧ kvs.length < 64 ∧ (∀ kv ∈ kvs, kv.1.map kTy = b :: sh) ∧
    ∀ (l : Addr) (rows : List Row), H l = none → (rows.map (·.2)).Perm (kvs.map (·.1)) → (rows.map (·.2)).Pairwise (fun a b => ksLt b a = false) → (∀ r ∈ rows, H r.1 = some (.tup (r.2.map kV))) → Q (.ref l) (upd H l (.lst (rows.map fun r => V.ref r.1)))) := by
  intro pins s σ H xs us Q I r h
  obtain ⟨d, kvs, b, sh, rfl, hd, h64, ha, q⟩ := h
  obtain ⟨u, rfl, ru⟩ := vals1 r
  cases ru
  obtain ⟨z, lo, ys, rel, o, es, ep, g1, g2, g3, g4, g5, g6⟩ := dt_of I.hok hd
  have raw : DRaw s.heap d es ep := ⟨o, g1, g2, g3⟩
  obtain ⟨rows, r1, r2, r3⟩ : ∃ rows : List Row, rows.map (·.2) = kvs.map (·.1) ∧ (∀ r ∈ rows, H r.1 = some (.tup (r.2.map kV))) ∧ es.toList.map (·.key) = rows.map fun r => Value.ref r.1 := by
    clear g5 g6 h64 ha q z hd
    rw [g4]
    clear g4 raw g3
    induction rel with
    | nil => exact ⟨[], rfl, by simp, rfl⟩
    | @cons p q ps qs h t ih =>
      obtain ⟨rows, a1, a2, a3⟩ := ih
      refine ⟨(q.2.1, p.1) :: rows, by simp [a1], fun r hr => ?_, ?_⟩
      · rcases List.mem_cons.mp hr with rfl | hr
        · exact h.2.1
        · exact a2 r hr
      · rw [List.map_cons, List.map_cons, a3]
        rfl
  have hlen : rows.length = kvs.length := by
    have := congrArg List.length r1
    simpa using this
  have hes : es.size = rows.length := by
    have := congrArg List.length r3
    simpa using this
  have tu : ∀ r ∈ rows, TupAt s.heap r ∧ r.2.map kTy = b :: sh := fun r hr => by
    obtain ⟨_, its, v, t⟩ := (show ObjOk X.prog X.w H s.heap r.1 (.tup (r.2.map kV)) from I.hok r.1 _ (r2 r hr))
    have : r.2 ∈ kvs.map (·.1) := by rw [← r1]; exact List.mem_map.mpr ⟨r, hr, rfl⟩
    obtain ⟨kv, hk, e⟩ := List.mem_map.mp this
    exact ⟨⟨its, v, t⟩, by rw [← e]; exact ha kv hk⟩
  refine sorted_asks (κ := tuples' true) (lt := rowLt rows) (vs := rows.map fun r => Value.ref r.1) (Rl := fun p => (p.map fun i => rowOr rows i).Pairwise (fun a b => ksLt b a = false)) (by rw [List.length_map]; omega) (fun h2 => rows_good (sh := b :: sh) (fun r hr => (tu r hr).2) (by rw [List.length_map]) (by omega)) (fun h2 => rows_small (by rw [List.length_map] at h2 ⊢; omega)) (fun R hR => ?_) (fun h2 s' k Q' q' => rows_kind (fun r hr => ⟨(tu r hr).1.keep k, (tu r hr).2⟩) (by rw [List.length_map] at h2; omega) Q' q')
    (fun h2 s' k i j hi hj C q' => rows_ltO (sh := b :: sh) (fun r hr => ⟨(tu r hr).1.keep k, (tu r hr).2⟩) (by simpa using hi) (by simpa using hj) C q') fun p D h' c tk hp' hrl hD k e => ?_
  · refine src_collect (raw_src (es := es) (ep := ep) lo) (I.ok.hd hc) raw (by rw [sizeLine_eq]; omega) fun h' tk acc hsz kk hacc => hR _ h' tk hsz kk ?_
    refine List.ext_getElem? fun i => ?_
    by_cases hi : i < es.size
    · have e1 : acc.size = es.size := hacc.1
      have := hacc.2 i (acc[i]'(by omega)) (by simp [e1, hi])
      rw [Array.getElem?_toList, Array.getElem?_eq_getElem (by omega)]
      rw [← this, ← r3, List.getElem?_map, Array.getElem?_toList]
    · have e1 : acc.size = es.size := hacc.1
      rw [List.getElem?_eq_none (by simp; omega), List.getElem?_eq_none (by simp; omega)]
  · rw [List.length_map] at hp'
    rw [perm_vals hp'] at e
    refine ⟨.ref D, _, I.laid (o := .lst ((p.map fun i => rows.getD i (0, [])).map fun r => V.ref r.1)) k hD ⟨?_, _, c, vals_refs _, by simpa [seqObj] using e⟩, rfl, q D _ (I.hok.fresh hD) (((perm_rows hp').map _).trans (by rw [r1])) (rows_up hp' hrl) fun r hr => r2 r ((perm_rows hp').mem_iff.mp hr)⟩
    rw [List.length_map, List.length_map, hp'.length_eq, List.length_range, sizeLine_eq]
    omega
end
end L2

set_option maxHeartbeats 4000000
namespace L2
open PySem PySem.Spec PyProof.Rows PySem.W
/-! ### what is made of data is data -/
abbrev Env1 := List (Option PyData)
/-- the names that Γ knows hold its data -/
def EnvOk (H : Hp) (Γ : Env1) (σ : St) : Prop := σ.length = Γ.length ∧ ∀ (i : Nat) (d : PyData), Γ[i]? = some (some d) → ∃ v, σ[i]? = some (some v) ∧ RX H d v
theorem EnvOk.same {H H' : Hp} {Γ : Env1} {σ : St} (h : EnvOk H Γ σ) (s : Same H H') : EnvOk H' Γ σ := ⟨h.1, fun i d e => let ⟨v, a, b⟩ := h.2 i d e; ⟨v, a, b.same s⟩⟩
theorem EnvOk.set {H : Hp} {Γ : Env1} {σ : St} (h : EnvOk H Γ σ) {i : Nat} {d : PyData} {v : V} (hv : RX H d v) : EnvOk H (Γ.set i (some d)) (σ.set i (some v)) := by
  refine ⟨by rw [List.length_set, List.length_set]; exact h.1, fun j e he => ?_⟩
  by_cases hj : i = j
  · subst hj
    rw [List.getElem?_set] at he
    simp only [if_true] at he
    split at he
    · rename_i hl
      cases he
      refine ⟨v, ?_, hv⟩
      rw [List.getElem?_set]
      simp only [if_true]
      rw [if_pos (by rw [h.1]; exact hl)]
    · cases he
  · rw [List.getElem?_set_ne hj] at he
    rw [List.getElem?_set_ne hj]
    exact h.2 j e he
/-- H without the places in Z -/
def er (Z : List Addr) (H : Hp) : Hp := fun b => if b ∈ Z then none else H b
theorem er_some {Z : List Addr} {H : Hp} {b : Addr} {o : HO} (h : er Z H b = some o) : H b = some o := by
  unfold er at h
  split at h
  · cases h
  · exact h
theorem er_le (Z : List Addr) (H : Hp) : Same (er Z H) H := fun b o h => er_some h
theorem er_mono {Z : List Addr} {H H' : Hp} (s : Same H H') : Same (er Z H) (er Z H') := fun b o h => by
  unfold er at h ⊢
  split at h
  · cases h
  · rename_i n
    rw [if_neg n]
    exact s _ _ h
theorem er_upd {Z : List Addr} {H : Hp} {p : Addr} {o : HO} (hz : ∀ b, b ∈ Z → H b ≠ none) (hp : H p = none) : er Z (upd H p o) = upd (er Z H) p o := by
  funext b
  unfold er
  by_cases hb : b = p
  · subst hb
    rw [if_neg (fun m => hz _ m hp), upd_same, upd_same]
  · rw [upd_ne hb, upd_ne hb]
theorem er_none {Z : List Addr} {H : Hp} {p : Addr} (hp : H p = none) : er Z H p = none := by
  unfold er
  split
  · rfl
  · exact hp
theorem er_nil (H : Hp) : er [] H = H := by
  funext b
  simp [er]
theorem z_same {Z : List Addr} {H H' : Hp} (s : Same H H') (hz : ∀ b, b ∈ Z → H b ≠ none) : ∀ b, b ∈ Z → H' b ≠ none := fun b m e => by
  cases h : H b with
  | none => exact hz b m h
  | some o =>
    rw [s _ _ h] at e
    cases e
/-- a reading gives d, not made of what stands in Z -/
def GivesD (t : TE) (Γ : Env1) (d : PyData) : Prop := ∀ Z σ H (Q : VK), (∀ b, b ∈ Z → H b ≠ none) → EnvOk (er Z H) Γ σ → (∀ v H', Same H H' → RX (er Z H') d v → Q v H') → t σ H Q
def GivesDs (t : TA) (Γ : Env1) (ds : List PyData) : Prop := ∀ Z σ H (Q : List V → Hp → Prop), (∀ b, b ∈ Z → H b ≠ none) → EnvOk (er Z H) Γ σ → (∀ vs H', Same H H' → RXs (er Z H') ds vs → Q vs H') → t σ H Q
section
variable {Γ : Env1} {K : PySem.W.Frag}
theorem gd_int {i : Int} : GivesD (tC (.int i)) Γ (.int i) := fun Z σ H Q _ _ q => q _ _ (Same.refl H) rfl
theorem gd_str {z : Str} : GivesD (tC (.str z)) Γ (.str z) := fun Z σ H Q _ _ q => q _ _ (Same.refl H) rfl
theorem gd_bl {b : Bool} : GivesD (tC (.bl b)) Γ (.bool b) := fun Z σ H Q _ _ q => q _ _ (Same.refl H) rfl
theorem gd_non : GivesD (tC .non) Γ .none := fun Z σ H Q _ _ q => q _ _ (Same.refl H) rfl
theorem gd_neg {i : Int} {t : TE} (h : GivesD t Γ (.int i)) : GivesD (tUn (rU fun i => .int (-i)) t) Γ (.int (-i)) := fun Z σ H Q z e q => h Z σ H _ z e fun v H1 s1 r => by
  cases (show v = .int i from r)
  exact ⟨i, rfl, q _ _ s1 rfl⟩
theorem gd_var {i : Nat} {d : PyData} (h : Γ[i]? = some (some d)) : GivesD (tVar i) Γ d := fun Z σ H Q _ e q => by
  obtain ⟨v, h1, h2⟩ := e.2 i d h
  exact ⟨v, h1, q v H (Same.refl H) h2⟩
theorem gs_nil : GivesDs tNil Γ [] := fun Z σ H Q _ _ q => q [] H (Same.refl H) rfl
theorem gs_cons {t : TE} {u : TA} {d : PyData} {ds : List PyData} (h : GivesD t Γ d) (g : GivesDs u Γ ds) : GivesDs (tCons t u) Γ (d :: ds) := fun Z σ H Q z e q =>
  h Z σ H _ z e fun v H1 s1 r1 => g Z σ H1 _ (z_same s1 z) (e.same (er_mono s1)) fun vs H2 s2 r2 => q _ _ (s1.trans s2) ⟨v, vs, rfl, r1.same (er_mono s2), r2⟩
theorem rx_newT {Z : List Addr} {H : Hp} {p : Addr} {vs : List V} {ds : List PyData} (z : ∀ b, b ∈ Z → H b ≠ none) (hp : H p = none) (r : RXs (er Z H) ds vs) : RX (er Z (upd H p (.tup vs))) (.tuple ds) (.ref p) := by
  rw [er_upd z hp]
  exact ⟨p, vs, rfl, upd_same, r.same (Same.upd (er_none hp))⟩
theorem rx_newL {Z : List Addr} {H : Hp} {p : Addr} {vs : List V} {ds : List PyData} (z : ∀ b, b ∈ Z → H b ≠ none) (hp : H p = none) (r : RXs (er Z H) ds vs) : RX (er Z (upd H p (.lst vs))) (.list ds) (.ref p) := by
  rw [er_upd z hp]
  exact ⟨p, vs, rfl, upd_same, r.same (Same.upd (er_none hp))⟩
theorem gd_tup {t : TA} {ds : List PyData} (h : GivesDs t Γ ds) (hl : ds.length ≤ 10000 := by decide) : GivesD (tTup t) Γ (.tuple ds) := fun Z σ H Q z e q =>
  h Z σ H _ z e fun vs H1 s1 r1 => ⟨by rw [rxs_len r1, sizeLine_eq]; omega, fun p hp => q _ _ (s1.trans (Same.upd hp)) (rx_newT (z_same s1 z) hp r1)⟩
theorem gd_lst {t : TA} {ds : List PyData} (h : GivesDs t Γ ds) (hl : ds.length ≤ 10000 := by decide) : GivesD (tLst t) Γ (.list ds) := fun Z σ H Q z e q =>
  h Z σ H _ z e fun vs H1 s1 r1 => ⟨by rw [rxs_len r1, sizeLine_eq]; omega, fun p hp => q _ _ (s1.trans (Same.upd hp)) (rx_newL (z_same s1 z) hp r1)⟩
theorem rxs_app {H : Hp} : ∀ {as bs : List PyData} {us vs : List V}, RXs H as us → RXs H bs vs → RXs H (as ++ bs) (us ++ vs)
  | [], _, _, _, h, g => by cases (show _ = [] from h); exact g
  | a :: as, _, _, _, h, g => by
    obtain ⟨v, r, rfl, q, t⟩ := h
    exact ⟨v, r ++ _, rfl, q, rxs_app t g⟩
theorem gd_catT {ta tb : TE} {as bs : List PyData} (h : GivesD ta Γ (.tuple as)) (g : GivesD tb Γ (.tuple bs)) (ha : as ≠ []) (hl : as.length + bs.length ≤ 10000) : GivesD (tOp (rCatT K) ta tb) Γ (.tuple (as ++ bs)) := fun Z σ H Q z e q =>
  h Z σ H _ z e fun v H1 s1 r1 => g Z σ H1 _ (z_same s1 z) (e.same (er_mono s1)) fun u H2 s2 r2 => by
    obtain ⟨a, us, rfl, ha1, x1⟩ := r1.same (er_mono s2)
    obtain ⟨b, vs, rfl, hb1, x2⟩ := r2
    have l1 := rxs_len x1
    have l2 := rxs_len x2
    refine ⟨a, b, us, vs, rfl, rfl, SqT.of (er_some ha1), SqT.of (er_some hb1), fun z => ?_, by rw [sizeLine_eq]; omega, fun z => ?_, fun zz p hp => ?_⟩
    · rw [z] at l1
      cases as with
      | nil => exact ha rfl
      | cons _ _ => simp at l1
    · subst z
      have : bs = [] := by
        cases bs with
        | nil => rfl
        | cons _ _ => simp at l2
      subst this
      rw [List.append_nil] at q
      exact q _ _ (s1.trans s2) ⟨a, us, rfl, ha1, x1⟩
    · exact q _ _ ((s1.trans s2).trans (Same.upd hp)) (rx_newT (z_same (s1.trans s2) z) hp (rxs_app x1 x2))
theorem gd_catL {ta tb : TE} {as bs : List PyData} (h : GivesD ta Γ (.list as)) (g : GivesD tb Γ (.list bs)) (hl : as.length + bs.length ≤ 10000) : GivesD (tOp rCat ta tb) Γ (.list (as ++ bs)) := fun Z σ H Q z e q =>
  h Z σ H _ z e fun v H1 s1 r1 => g Z σ H1 _ (z_same s1 z) (e.same (er_mono s1)) fun u H2 s2 r2 => by
    obtain ⟨a, us, rfl, ha1, x1⟩ := r1.same (er_mono s2)
    obtain ⟨b, vs, rfl, hb1, x2⟩ := r2
    have l1 := rxs_len x1
    have l2 := rxs_len x2
    refine ⟨a, b, us, vs, rfl, rfl, er_some ha1, er_some hb1, by rw [sizeLine_eq]; omega, fun p hp => ?_⟩
    exact q _ _ ((s1.trans s2).trans (Same.upd hp)) (rx_newL (z_same (s1.trans s2) z) hp (rxs_app x1 x2))
theorem gd_ixT {ta tb : TE} {as : List PyData} {i : Nat} {d : PyData} (h : GivesD ta Γ (.tuple as)) (g : GivesD tb Γ (.int i)) (hd : as[i]? = some d) : GivesD (tOp (rIxT K) ta tb) Γ d := fun Z σ H Q z e q =>
  h Z σ H _ z e fun v H1 s1 r1 => g Z σ H1 _ (z_same s1 z) (e.same (er_mono s1)) fun u H2 s2 r2 => by
    obtain ⟨a, us, rfl, ha1, x1⟩ := r1.same (er_mono s2)
    cases (show u = .int i from r2)
    obtain ⟨hi, e1⟩ := List.getElem?_eq_some_iff.mp hd
    have l1 := rxs_len x1
    have rx := rxs_at x1 hi
    have e2 : as.getD i .none = d := by simp [List.getD, hi, e1]
    rw [e2] at rx
    refine ⟨a, us, i, us.getD i .non, rfl, rfl, SqT.of (er_some ha1), atI_nat ?_, q _ _ (s1.trans s2) rx⟩
    have : i < us.length := by omega
    simp [List.getD, this]
/-- a statement's way to what it gives back -/
def EndsD (t : TS) (Γ : Env1) (d : PyData) : Prop := ∀ (D : Ends) σ H, EnvOk H Γ σ → (∀ v H', Same H H' → RX H' d v → D.rt v H') → t D σ H
theorem GivesD.run {t : TE} {d : PyData} (h : GivesD t Γ d) {σ : St} {H : Hp} {Q : VK} (e : EnvOk H Γ σ) (q : ∀ v H', Same H H' → RX H' d v → Q v H') : t σ H Q :=
  h [] σ H Q (fun _ m => by cases m) (by rw [er_nil]; exact e) fun v H' s r => q v H' s (by rw [er_nil] at r; exact r)
theorem ed_ret {t : TE} {d : PyData} (h : GivesD t Γ d) : EndsD (tRet t) Γ d := fun D σ H e q => h.run e q
theorem ed_set {t : TE} {u : TS} {i : Nat} {d e : PyData} (h : GivesD t Γ d) (g : EndsD u (Γ.set i (some d)) e) : EndsD (tSeq (tAsg t (gName i)) u) Γ e := fun D σ H en q =>
  h.run en fun v H1 s1 r1 => g { D with } (σ.set i (some v)) H1 ((en.same s1).set r1) fun w H2 s2 r2 => q w H2 (s1.trans s2) r2
end
end L2

set_option maxHeartbeats 4000000
namespace HT
open PySem PySem.Spec PyProof.Rows
section
variable {prog : Program} {w : World} {A : Around} {E : Value → Shared → Prop} {s : Shared}
theorem getItem_tuple_whole {t sl : Addr} {items : Array Value} {vl vu : Value} {lo hi : Option Int} {Q : Value → Shared → Prop} (ht : IsTup s.heap t items) (hs : s.heap.IsSliceOf sl vl vu .none) (pl : IsPart vl lo) (pu : IsPart vu hi)
    (hw : sIx items.size 0 lo = 0 ∧ sIx items.size items.size hi = items.size) (h : Q (.ref t) s) : wpAny (model prog w) A (getItem (.ref t) (.ref sl)) Q E s := by
  obtain ⟨os, hos, hcs, hds⟩ := id hs
  have hTs : s.TypeIs (.ref sl) "slice" := ⟨os, hos, hcs⟩
  unfold getItem
  try with_reducible refine wpAny_holding ?_
  first | refine wpAny_bind (wpAny_pure ?_) | skip
  refine wpAny_bind (wpAny_sequenceKey ht.typeIs (by decide) ?_)
  refine wpAny_bind (wpAny_callSpecial?_slot (name := Str.ofString "__getitem__") ht.typeIs PyProof.Rows.slot_tuple_getitem
    (wpAny_call_entry PyProof.Rows.slot_tuple_getitem ht.typeIs entry_tuple_getitem ?_ (args_tuple_getitem _ _)))
  show wpAny _ _ (Builtin.Tuple.tupleItemsOf (.ref t) >>= _) _ _ s
  refine wpAny_bind (tupleItemsOf_ ht ?_)
  refine wpAny_bind (wpAny_typeOf hTs ?_)
  rw [if_pos (by decide)]
  refine wpAny_bind (sliceApplied_gen hs pl pu ?_)
  have hyes : ((((sIx items.size 0 lo : Nat) : Int) == 0 && (1 : Int) == 1 && (sIx items.size items.size hi - sIx items.size 0 lo) == items.size) = true) := by
    rw [hw.1, hw.2]
    simp
  show wpAny _ _ (if (((sIx items.size 0 lo : Nat) : Int) == 0 && (1 : Int) == 1 && (sIx items.size items.size hi - sIx items.size 0 lo) == items.size) = true then _ else _) _ _ s
  rw [if_pos hyes]
  unfold Builtin.Tuple.tupleIsExact
  refine wpAny_bind (wpAny_bind (wpAny_typeOf ht.typeIs (wpAny_pure ?_)))
  rw [if_pos (by decide)]
  refine wpAny_bind (wpAny_rule ?_)
  exact wpAny_pure ⟨_, rfl, wpAny_pure h⟩
theorem sliceApplied_back {sl : Addr} {t : Tok} {n : Nat} {Q : Int × Int × Nat → Shared → Prop} (hs : s.heap.IsSliceOf sl .none .none (.int (-1) t))
    (h : Q ((n : Int) - 1, -1, n) s) : wpAny (model prog w) A (Builtin.Slice.sliceApplied (.ref sl) (pure (n : Int))) Q E s := by
  obtain ⟨os, hos, hcs, hds⟩ := id hs
  unfold Builtin.Slice.sliceApplied Builtin.Slice.sliceFields
  refine wpAny_bind (wpAny_bind (wpAny_field hos hds (x := .none) rfl (wpAny_bind (wpAny_field hos hds (x := .none) rfl (wpAny_bind (wpAny_field hos hds (x := .int (-1) t) rfl (wpAny_pure ?_)))))))
  refine wpAny_bind (slicePart_int ?_)
  show wpAny _ _ (if ((-1 : Int) == 0) = true then _ else _) _ _ s
  rw [if_neg (by decide)]
  refine wpAny_bind (slicePart_none (wpAny_bind (slicePart_none (wpAny_bind (wpAny_pure ?_)))))
  have e : Builtin.Slice.sliceAdjust none none (-1) (n : Int) = ((n : Int) - 1, -1) := rfl
  have e2 : Builtin.Slice.slicePlaces ((n : Int) - 1) (-1) (-1) = n := by
    unfold Builtin.Slice.slicePlaces
    simp only [show ¬ ((-1 : Int) > 0) by omega, if_false, Int.neg_neg, Int.ediv_one]
    split <;> omega
  show wpAny _ _ (match Builtin.Slice.sliceAdjust none none (-1) (n : Int) with | (lo, hi) => pure (lo, (-1 : Int), Builtin.Slice.slicePlaces lo hi (-1))) _ _ s
  rw [e]
  show wpAny _ _ (pure ((n : Int) - 1, (-1 : Int), Builtin.Slice.slicePlaces ((n : Int) - 1) (-1) (-1))) _ _ s
  rw [e2]
  exact wpAny_pure h
theorem fm_map {β : Type} {f : Nat → Option β} {g : Nat → β} : ∀ (l : List Nat), (∀ m, m ∈ l → f m = some (g m)) → l.filterMap f = l.map g
  | [], _ => rfl
  | a :: l, h => by
    rw [List.filterMap_cons_some (h a (List.mem_cons_self ..)), List.map_cons, fm_map l fun m hm => h m (List.mem_cons_of_mem _ hm)]
theorem pick_back (xs : Array Value) : ((List.range xs.size).filterMap fun (m : Nat) => xs[(((xs.size : Nat) : Int) - 1 + (m : Int) * (-1)).toNat]?).toArray = xs.toList.reverse.toArray := by
  congr 1
  refine List.ext_getElem? fun i => ?_
  have e : ∀ m, m ∈ List.range xs.size → (fun (m : Nat) => xs[(((xs.size : Nat) : Int) - 1 + (m : Int) * (-1)).toNat]?) m = some ((fun m => xs.toList.reverse.getD m .none) m) := by
    intro m hm
    have hm' : m < xs.size := List.mem_range.mp hm
    have e1 : (((xs.size : Nat) : Int) - 1 + (m : Int) * (-1)).toNat = xs.size - 1 - m := by omega
    show xs[(((xs.size : Nat) : Int) - 1 + (m : Int) * (-1)).toNat]? = _
    rw [e1]
    have hl : xs.size - 1 - m < xs.size := by omega
    simp [List.getD, hm']
  have e3 : List.filterMap (fun (m : Nat) => xs[(((xs.size : Nat) : Int) - 1 + (m : Int) * (-1)).toNat]?) (List.range xs.size) = (List.range xs.size).map (fun m => xs.toList.reverse.getD m .none) := fm_map _ e
  rw [e3]
  by_cases h : i < xs.size
  · simp [List.getD, h]
  · have h2 : ¬ i < xs.toList.length := by simpa using h
    simp [h]
theorem getItem_tuple_back {t sl : Addr} {items : Array Value} {tk : Tok} {Q : Value → Shared → Prop} (ht : IsTup s.heap t items) (hs : s.heap.IsSliceOf sl .none .none (.int (-1) tk))
    (h : Q (.ref s.heap.objs.size) { s with heap := s.heap.push { cls := .type "tuple", data := .seq items.toList.reverse.toArray } })
    (hsz : items.size ≤ sizeLine) : wpAny (model prog w) A (getItem (.ref t) (.ref sl)) Q E s := by
  have htake : sizeOk (.seq items.toList.reverse.toArray) := by
    show items.toList.reverse.toArray.size ≤ sizeLine
    simpa using hsz
  obtain ⟨os, hos, hcs, hds⟩ := id hs
  have hTs : s.TypeIs (.ref sl) "slice" := ⟨os, hos, hcs⟩
  unfold getItem
  try with_reducible refine wpAny_holding ?_
  first | refine wpAny_bind (wpAny_pure ?_) | skip
  refine wpAny_bind (wpAny_sequenceKey ht.typeIs (by decide) ?_)
  refine wpAny_bind (wpAny_callSpecial?_slot (name := Str.ofString "__getitem__") ht.typeIs PyProof.Rows.slot_tuple_getitem
    (wpAny_call_entry PyProof.Rows.slot_tuple_getitem ht.typeIs entry_tuple_getitem ?_ (args_tuple_getitem _ _)))
  show wpAny _ _ (Builtin.Tuple.tupleItemsOf (.ref t) >>= _) _ _ s
  refine wpAny_bind (tupleItemsOf_ ht ?_)
  refine wpAny_bind (wpAny_typeOf hTs ?_)
  rw [if_pos (by decide)]
  refine wpAny_bind (sliceApplied_back hs ?_)
  have hno : ¬ ((((items.size : Nat) : Int) - 1 == 0 && (-1 : Int) == 1 && items.size == items.size) = true) := by
    intro q
    rw [Bool.and_eq_true, Bool.and_eq_true] at q
    exact absurd q.1.2 (by decide)
  show wpAny _ _ (if (((items.size : Nat) : Int) - 1 == 0 && (-1 : Int) == 1 && items.size == items.size) = true then _ else _) _ _ s
  rw [if_neg hno, pick_back]
  first
    | exact wpAny_bind (m := Builtin.Tuple.tupleExact _) (wpAny_newObj_type (wpAny_pure ⟨_, rfl, wpAny_pure h⟩) htake)
    | exact wpAny_bind (m := Builtin.Tuple.tupleExact _) (wpAny_newObj_type (wpAny_bind (wpAny_pure (wpAny_pure ⟨_, rfl, wpAny_pure h⟩))) htake)
    | exact wpAny_bind (wpAny_bind (m := Builtin.Tuple.tupleExact _) (wpAny_newObj_type (wpAny_pure (wpAny_pure ⟨_, rfl, wpAny_pure h⟩)) htake))
    | exact wpAny_bind (wpAny_bind (m := Builtin.Tuple.tupleExact _) (wpAny_newObj_type (wpAny_pure ⟨_, rfl, wpAny_pure h⟩) htake))
end
end HT
namespace L2
open PySem PySem.Spec PyProof.Rows PySem.W
section
variable {X : Cx}
/-- t[lo:hi]: the whole of it is t itself -/
def rSlA (K : PySem.W.Frag) : V → Option Int → Option Int → Hp → VK → Prop := fun x lo hi H Q => ∃ a xs, x = .ref a ∧ SqT K H a xs ∧ (cutV xs lo hi = xs → Q (.ref a) H) ∧ ∀ p, H p = none → Q (.ref p) (upd H p (.tup (cutV xs lo hi)))
theorem sl_tupA : SlR X (rSlA X.K) := by
  intro pins s σ H x v vl vu lo hi sl Q I rx hs pl pu h
  obtain ⟨a, xs, rfl, hx, q1, q2⟩ := h
  by_cases hw : HT.sIx xs.length 0 lo = 0 ∧ HT.sIx xs.length xs.length hi = xs.length
  · cases rx
    obtain ⟨its, r, ht, hz⟩ := I.tuple hx
    have hlen : its.toArray.size = xs.length := by rw [List.size_toArray]; exact r.length.symm
    refine ⟨"tuple", _, PyProof.Rows.slot_tuple_getitem.lookup, ht.typeIs, ?_⟩
    refine HT.getItem_tuple_whole ht hs pl pu (by rw [hlen]; exact hw) ?_
    refine ⟨.ref a, H, I, rfl, q1 ?_⟩
    unfold cutV
    rw [hw.1, hw.2]
    simp
  · exact sl_tup pins s σ H _ v vl vu lo hi sl Q I rx hs pl pu ⟨a, xs, rfl, hx, hw, q2⟩
/-- t[::-1] -/
def tBack (K : PySem.W.Frag) (te ts : TE) : TE := fun σ H Q => te σ H fun x H1 => ts σ H1 fun y H2 => y = .int (-1) ∧ ∃ a xs, x = .ref a ∧ SqT K H2 a xs ∧ ∀ p, H2 p = none → Q (.ref p) (upd H2 p (.tup xs.reverse))
theorem pe_back {e es : Expr} {te ts : TE} {pos p2 : Pos} (he : PE X e te) (hs : PE X es ts) : PE X (.Subscript e (.Slice none none (some es) p2) pos) (tBack X.K te ts) := by
  intro pins s σ H Q I h
  refine Subscript_ (thn (he pins s σ H _ I h) fun v s1 ⟨x, H1, I1, r1, q1⟩ => ?_)
  refine wpAny_Slice ?_
  rw [evalPart_none]
  refine wpAny_pure ?_
  refine wpAny_pure ?_
  rw [evalPart_some]
  refine thn (hs pins s1 σ H1 _ I1 q1) fun vs s3 ⟨y, H3, I3, r3, q3⟩ => ?_
  obtain ⟨rfl, a, xs, rfl, hx, q⟩ := q3
  obtain ⟨tk, rfl⟩ := r3
  cases r1
  have I4 : Inv X pins σ H3 { s3 with heap := s3.heap.push { cls := .type "slice", data := .fields #[.none, .none, .int (-1) tk] } } := I3.kept (t' := s3.toks) fun b ob q => Heap.get?_push_of_some _ q
  obtain ⟨its, r, ht, hz⟩ := I4.tuple hx
  have hlen : its.toArray.size = xs.length := by rw [List.size_toArray]; exact r.length.symm
  have hg : wpAny (model X.prog X.w) X.A (getItem (.ref a) (.ref s3.heap.objs.size)) (EP X pins σ Q) X.xe { s3 with heap := s3.heap.push { cls := .type "slice", data := .fields #[.none, .none, .int (-1) tk] } } := by
    refine HT.getItem_tuple_back ht (Heap.IsSliceOf.new ..) ?_ (by rw [hlen]; exact hz)
    refine ⟨.ref _, _, I4.laid (t' := s3.toks) (o := .tup xs.reverse) (fun b ob q => Heap.get?_push_of_some _ q) (Nat.le_refl _) ?_, rfl, q _ (I4.hok.fresh (Nat.le_refl _))⟩
    exact ⟨by simpa using hz, _, r.reverse, IsTup.new _ _⟩
  show wpAny (model X.prog X.w) X.A (subscriptTail e (.Slice none none (some es) p2) (.ref a) (.ref s3.heap.objs.size)) (EP X pins σ Q) X.xe { s3 with heap := s3.heap.push { cls := .type "slice", data := .fields #[.none, .none, .int (-1) tk] } }
  exact tail_any (ops := [.ref a, .ref s3.heap.objs.size]) ht.typeIs PyProof.Rows.slot_tuple_getitem.lookup hg (by with_unfolding_all rfl)
end
end L2

set_option maxHeartbeats 4000000
namespace HT
open PySem PySem.Spec PyProof.Rows
open Sem (wp)
open Builtin
theorem noFill_tuple_mul : fillsNumberSlot (.type "tuple") "mul" = pure false :=
  PySem.fillsNumberSlot_seq (id := "tuple.__mul__") (r := some (.builtin "tuple.__rmul__")) F.slot_tuple_mul.lookup (by decide +kernel) F.slot_tuple_rmul.lookup (by decide +kernel)
theorem repeat_tuple : seqRepeat? (.type "tuple") = pure (some (.builtin "tuple.__mul__")) := by
  unfold seqRepeat?
  rw [PySem.seqSlot_of (T := "tuple") (name := "__mul__") (id := "tuple.__mul__") F.slot_tuple_mul.lookup (by decide +kernel), PySem.seqSlot_of (T := "tuple") (name := "__rmul__") (id := "tuple.__rmul__") F.slot_tuple_rmul.lookup (by decide +kernel)]
  rfl
theorem int___rmul___int_tuple (a : Int) (t : Tok) (l : Addr) (dd : Option Addr) (items : Array Value) (n : Nat) (ss : Array (Option Value)) :
    Meets (Builtin.«int.__rmul__» ⟨[.int a t, .ref l], []⟩) (fun _ R s => s.heap.get? l = some { cls := .type "tuple", dict := dd, data := .seq items n, slots := ss } ∧ R (.ok (.ret Value.notImplemented)) s) :=
  .of_wp fun prog w A R s h => by obtain ⟨hp, g, d, tk, os⟩ := s; obtain ⟨hl, h⟩ := h; wp_walk; exact ⟨_, rfl, h⟩
theorem tuple_mulW (l : Addr) (dd : Option Addr) (items : Array Value) (n : Nat) (ss : Array (Option Value)) (x : Int) (u : Tok) (hc0 : ¬(decide (x < -(2 ^ 63)) || decide (x ≥ 2 ^ 63)) = true) (hc1 : ¬(items.isEmpty || x == 1) = true) (hc2 : ¬ (decide (x ≤ 0) || items.isEmpty) = true)
    (hc3 : ¬ (items.size : Int) * x > (2 ^ 63 - 1) / 8) (hc4 : ¬ Builtin.Tuple.tupleTooMany ((items.size : Int) * x) = true) (hsz : (List.foldl (fun x1 x2 => x1 ++ x2) #[] (List.replicate x.toNat items)).size ≤ sizeLine) :
    Meets (Builtin.«tuple.__mul__» ⟨[.ref l, .int x u], []⟩) (fun _ R s => s.heap.get? l = some { cls := .type "tuple", dict := dd, data := .seq items n, slots := ss } ∧ R (.ok (.ret (Value.ref s.heap.objs.size))) { s with heap := s.heap.push { cls := Value.type "tuple", data := Data.seq (List.foldl (fun x1 x2 => x1 ++ x2) #[] (List.replicate x.toNat items)) }, toks := s.toks }) :=
  .of_wp fun prog w A R s h => by
    obtain ⟨hp, g, d, tk, os⟩ := s; obtain ⟨hl, h⟩ := h
    wp_walk
    rw [if_neg hc0]
    refine wpAny_bind (tupleItemsOf_ (items := items) ⟨_, hl, rfl, n, rfl⟩ ?_)
    rw [if_neg hc1]
    show wpAny _ _ (if (decide (x ≤ 0) || items.isEmpty) = true then _ else _) _ _ _
    rw [if_neg hc2]
    show wpAny _ _ (if (items.size : Int) * x > (2 ^ 63 - 1) / 8 then _ else _) _ _ _
    rw [if_neg hc3]
    show wpAny _ _ (if Builtin.Tuple.tupleTooMany ((items.size : Int) * x) = true then _ else _) _ _ _
    rw [if_neg hc4]
    exact wpAny_bind (m := Builtin.Tuple.tupleExact _) (wpAny_newObj_type (wpAny_pure ⟨_, rfl, h⟩) hsz)
end HT
namespace L2
open PySem PySem.Spec PyProof.Rows PySem.W
section
variable {X : Cx}
/-- t * k, t not empty, 2 ≤ k -/
def rRepT (K : PySem.W.Frag) : R2 := fun x y H Q => ∃ a xs k, x = .ref a ∧ y = .int k ∧ SqT K H a xs ∧ xs ≠ [] ∧ 2 ≤ k ∧ xs.length * k.toNat ≤ sizeLine ∧ ∀ p, H p = none → Q (.ref p) (upd H p (.tup (List.replicate k.toNat xs).flatten))
theorem op_repT : OpR X (binaryOp .Mult) (rRepT X.K) := by
  intro pins s σ H x y v u Q I rx ry h
  obtain ⟨l, xs, k, rfl, rfl, hH, h0, h2, hz, q⟩ := h
  cases rx
  obtain ⟨t, rfl⟩ := ry
  obtain ⟨its, r, ht, _⟩ := I.tuple hH
  have hl : xs.length = its.length := r.length
  obtain ⟨⟨cls, dd, data, sl⟩, ho, hc, n, hd⟩ := id ht
  simp only at hc hd
  subst hc hd
  have hlen : its.length * k.toNat ≤ sizeLine := by rw [← hl]; exact hz
  have hln := line63
  have hp : 1 ≤ its.length := by
    rw [← hl]
    cases xs with
    | nil => exact absurd rfl h0
    | cons _ _ => simp
  have hk : k.toNat ≤ its.length * k.toNat := Nat.le_mul_of_pos_left _ hp
  have hsl : sizeLine = 16777216 := sizeLine_eq
  have hmul : ((its.toArray.size : Nat) : Int) * k = ((its.length * k.toNat : Nat) : Int) := by
    rw [List.size_toArray, Int.natCast_mul, Int.toNat_of_nonneg (by omega)]
  have hne : its ≠ [] := fun z => by subst z; simp at hp
  have hnew : List.foldl (fun x1 x2 => x1 ++ x2) #[] (List.replicate k.toNat its.toArray) = (List.replicate k.toNat its).flatten.toArray := by
    have := foldl_rep its k.toNat []
    rw [List.nil_append] at this
    exact this
  refine wpAny_binaryOp_repeat_ref (T := "tuple") (U := "int") (by decide) ⟨_, ho, rfl⟩ (fun s' => typeIs_int s' k t) HT.noFill_tuple_mul F.fills_int_mul F.slot_int_rmul HT.repeat_tuple F.slot_int_index.lookup
    (call_meets F.slot_int_rmul (typeIs_int s k t) F.entry_int_rmul (F.args_int_rmul_2 _ _) (HT.int___rmul___int_tuple k t l dd its.toArray n sl)
      ⟨ho, rfl, ⟨_, ho, rfl⟩, call_meets F.slot_tuple_mul ⟨_, ho, rfl⟩ F.entry_tuple_mul (F.args_tuple_mul_2 _ _) (HT.tuple_mulW l dd its.toArray n sl k t ?_ ?_ ?_ ?_ ?_ ?_) ⟨ho, ?_⟩⟩)
  · simp; omega
  · simp [hne]; omega
  · simp [hne]; omega
  · rw [hmul]; omega
  · unfold Builtin.Tuple.tupleTooMany
    rw [hmul]
    intro h
    have := of_decide_eq_true h
    omega
  · rw [hnew, List.size_toArray, len_rep, Nat.mul_comm]; exact hlen
  · rw [hnew]
    refine ⟨.ref s.heap.objs.size, _, I.laid (t' := s.toks) (o := .tup (List.replicate k.toNat xs).flatten) (fun b ob q => Heap.get?_push_of_some _ q) (Nat.le_refl _) ?_, rfl, q _ (I.hok.fresh (Nat.le_refl _))⟩
    exact ⟨by rw [len_rep, Nat.mul_comm]; exact hz, _, r.rep k.toNat, IsTup.new _ _⟩
end
end L2

set_option maxHeartbeats 4000000
namespace L2
open PySem PySem.Spec PyProof.Rows PySem.W
section
variable {Γ : Env1} {K : PySem.W.Frag}
/-! ### slices, repeats -/
def GivesO (t : TO) (Γ : Env1) (o : Option Int) : Prop := ∀ Z σ H (Q : Option Int → Hp → Prop), (∀ b, b ∈ Z → H b ≠ none) → EnvOk (er Z H) Γ σ → (∀ H', Same H H' → Q o H') → t σ H Q
theorem go_none : GivesO tNoPart Γ none := fun Z σ H Q _ _ q => q H (Same.refl H)
theorem go_some {t : TE} {i : Int} (h : GivesD t Γ (.int i)) : GivesO (tPart t) Γ (some i) := fun Z σ H Q z e q => h Z σ H _ z e fun v H1 s1 r => by
  cases (show v = .int i from r)
  exact ⟨i, rfl, q _ s1⟩
/-- the items of ds[lo:hi] -/
def cutD (ds : List PyData) (lo hi : Option Int) : List PyData := (ds.drop (HT.sIx ds.length 0 lo)).take (HT.sIx ds.length ds.length hi - HT.sIx ds.length 0 lo)
theorem rxs_drop {H : Hp} : ∀ {ds : List PyData} {us : List V} (k : Nat), RXs H ds us → RXs H (ds.drop k) (us.drop k)
  | _, _, 0, h => h
  | [], _, k + 1, h => by cases (show _ = [] from h); exact rfl
  | d :: ds, _, k + 1, h => by
    obtain ⟨v, r, rfl, _, t⟩ := h
    exact rxs_drop k t
theorem rxs_take {H : Hp} : ∀ {ds : List PyData} {us : List V} (k : Nat), RXs H ds us → RXs H (ds.take k) (us.take k)
  | _, _, 0, h => by rw [List.take_zero, List.take_zero]; exact rfl
  | [], _, k + 1, h => by cases (show _ = [] from h); exact rfl
  | d :: ds, _, k + 1, h => by
    obtain ⟨v, r, rfl, a, t⟩ := h
    exact ⟨v, r.take k, rfl, a, rxs_take k t⟩
theorem rxs_rev {H : Hp} : ∀ {ds : List PyData} {us : List V}, RXs H ds us → RXs H ds.reverse us.reverse
  | [], _, h => by cases (show _ = [] from h); exact rfl
  | d :: ds, _, h => by
    obtain ⟨v, r, rfl, a, t⟩ := h
    rw [List.reverse_cons, List.reverse_cons]
    exact rxs_app (rxs_rev t) ⟨v, [], rfl, a, rfl⟩
theorem rxs_rep {H : Hp} {ds : List PyData} {us : List V} (h : RXs H ds us) : ∀ k : Nat, RXs H (List.replicate k ds).flatten (List.replicate k us).flatten
  | 0 => rfl
  | k + 1 => by
    rw [List.replicate_succ, List.replicate_succ, List.flatten_cons, List.flatten_cons]
    exact rxs_app h (rxs_rep h k)
theorem rxs_cut {H : Hp} {ds : List PyData} {us : List V} {lo hi : Option Int} (h : RXs H ds us) : RXs H (cutD ds lo hi) (cutV us lo hi) := by
  unfold cutD cutV
  rw [rxs_len h]
  exact rxs_take _ (rxs_drop _ h)
theorem gd_sl {ta : TE} {tl th : TO} {ds : List PyData} {lo hi : Option Int} (h : GivesD ta Γ (.tuple ds)) (gl : GivesO tl Γ lo) (gh : GivesO th Γ hi) : GivesD (tSl (rSlA K) ta tl th) Γ (.tuple (cutD ds lo hi)) := fun Z σ H Q z e q =>
  h Z σ H _ z e fun v H1 s1 r1 => gl Z σ H1 _ (z_same s1 z) (e.same (er_mono s1)) fun H2 s2 => gh Z σ H2 _ (z_same (s1.trans s2) z) (e.same (er_mono (s1.trans s2))) fun H3 s3 => by
    obtain ⟨a, us, rfl, ha1, x1⟩ := r1.same (er_mono (s2.trans s3))
    have s13 := (s1.trans s2).trans s3
    have x2 := rxs_cut (lo := lo) (hi := hi) x1
    refine ⟨a, us, rfl, SqT.of (er_some ha1), fun ec => q _ _ s13 ⟨a, us, rfl, ha1, ?_⟩, fun p hp => q _ _ (s13.trans (Same.upd hp)) (rx_newT (z_same s13 z) hp x2)⟩
    rw [ec] at x2
    exact x2
theorem gd_back {ta tb : TE} {ds : List PyData} (h : GivesD ta Γ (.tuple ds)) (g : GivesD tb Γ (.int (-1))) : GivesD (tBack K ta tb) Γ (.tuple ds.reverse) := fun Z σ H Q z e q =>
  h Z σ H _ z e fun v H1 s1 r1 => g Z σ H1 _ (z_same s1 z) (e.same (er_mono s1)) fun u H2 s2 r2 => by
    obtain ⟨a, us, rfl, ha1, x1⟩ := r1.same (er_mono s2)
    cases (show u = .int (-1) from r2)
    have s12 := s1.trans s2
    exact ⟨rfl, a, us, rfl, SqT.of (er_some ha1), fun p hp => q _ _ (s12.trans (Same.upd hp)) (rx_newT (z_same s12 z) hp (rxs_rev x1))⟩
theorem gd_repT {ta tb : TE} {ds : List PyData} {k : Int} (h : GivesD ta Γ (.tuple ds)) (g : GivesD tb Γ (.int k)) (hd : ds ≠ []) (hk : 2 ≤ k) (hl : ds.length * k.toNat ≤ 10000) : GivesD (tOp (rRepT K) ta tb) Γ (.tuple (List.replicate k.toNat ds).flatten) := fun Z σ H Q z e q =>
  h Z σ H _ z e fun v H1 s1 r1 => g Z σ H1 _ (z_same s1 z) (e.same (er_mono s1)) fun u H2 s2 r2 => by
    obtain ⟨a, us, rfl, ha1, x1⟩ := r1.same (er_mono s2)
    cases (show u = .int k from r2)
    have s12 := s1.trans s2
    have l1 := rxs_len x1
    refine ⟨a, us, k, rfl, rfl, SqT.of (er_some ha1), fun zz => ?_, hk, by rw [l1, sizeLine_eq]; omega, fun p hp => q _ _ (s12.trans (Same.upd hp)) (rx_newT (z_same s12 z) hp (rxs_rep x1 _))⟩
    subst zz
    cases ds with
    | nil => exact hd rfl
    | cons _ _ => simp at l1
/-! ### list(t), tuple(l) -/
theorem gd_list {ta : TA} {ds : List PyData} (h : GivesDs ta Γ [.tuple ds]) : GivesD (tCB (fun xs H Q => ∃ p ys, xs = [.ref p] ∧ (SqL K H p ys ∨ SqT K H p ys) ∧ ∀ l, H l = none → Q (.ref l) (upd H l (.lst ys))) ta) Γ (.list ds) := fun Z σ H Q z e q =>
  h Z σ H _ z e fun vs H1 s1 r1 => by
    obtain ⟨v, r, rfl, ⟨a, us, rfl, ha1, x1⟩, hr⟩ := r1
    cases (show r = [] from hr)
    exact ⟨a, us, rfl, Or.inr (SqT.of (er_some ha1)), fun p hp => q _ _ (s1.trans (Same.upd hp)) (rx_newL (z_same s1 z) hp x1)⟩
theorem gd_tuple {ta : TA} {ds : List PyData} (h : GivesDs ta Γ [.list ds]) : GivesD (tCB (fun xs H Q => ∃ p ys, xs = [.ref p] ∧ ((SqL K H p ys ∧ ∀ l, H l = none → Q (.ref l) (upd H l (.tup ys))) ∨ (SqT K H p ys ∧ Q (.ref p) H))) ta) Γ (.tuple ds) := fun Z σ H Q z e q =>
  h Z σ H _ z e fun vs H1 s1 r1 => by
    obtain ⟨v, r, rfl, ⟨a, us, rfl, ha1, x1⟩, hr⟩ := r1
    cases (show r = [] from hr)
    exact ⟨a, us, rfl, Or.inl ⟨SqL.of (er_some ha1), fun p hp => q _ _ (s1.trans (Same.upd hp)) (rx_newT (z_same s1 z) hp x1)⟩⟩
/-! ### comprehensions -/
theorem env_free {H : Hp} {σ : St} (h : EnvOk H Γ σ) (js : List Nat) : EnvOk H (js.map fun j => (Γ[j]?).join) (frees js σ) := by
  refine ⟨by simp [frees], fun i d e => ?_⟩
  rw [List.getElem?_map] at e
  unfold frees
  rw [List.getElem?_map]
  cases hj : js[i]? with
  | none => rw [hj] at e; cases e
  | some j =>
    rw [hj] at e
    simp only [Option.map_some, Option.some.injEq] at e ⊢
    obtain ⟨v, h1, h2⟩ := h.2 j d (by
      cases hg : Γ[j]? with
      | none => rw [hg] at e; cases e
      | some o => rw [hg] at e; simpa using e)
    exact ⟨v, by rw [h1]; rfl, h2⟩
theorem env_cons {H : Hp} {σ : St} {d : PyData} {v : V} (h : EnvOk H Γ σ) (r : RX H d v) : EnvOk H (some d :: Γ) (some v :: σ) := by
  refine ⟨by simp [h.1], fun i e he => ?_⟩
  cases i with
  | zero => cases he; exact ⟨v, rfl, r⟩
  | succ i => exact h.2 i e he
theorem er_in {Z : List Addr} {H : Hp} {D : Addr} {o : HO} : er (D :: Z) (upd H D o) = er (D :: Z) H := by
  funext b
  unfold er
  by_cases hb : b = D
  · subst hb
    simp
  · rw [upd_ne hb]
theorem er_out (Z : List Addr) (H : Hp) (D : Addr) : Same (er (D :: Z) H) (er Z H) := fun b o h => by
  unfold er at h ⊢
  split at h
  · cases h
  · rename_i n
    rw [if_neg fun m => n (List.mem_cons_of_mem _ m)]
    exact h
theorem blk_dat {J : It} {n : Nat} {vs : Nat → List V} {G : Hp → Prop} {te : TE} {fs : St} {Γf : Env1} {Z : List Addr} {H1 : Hp} {D : Addr} {done : Hp → Prop} (F : Fx K .one J n vs G) (e g : Nat → PyData) (hn : n ≤ 10000) (hD : H1 D = none) (z : ∀ b, b ∈ Z → H1 b ≠ none) (hG : ∀ H, Same H1 H → G H)
    (hx : ∀ i, i < n → ∃ x, vs i = [x] ∧ RX (er Z H1) (e i) x) (hf : EnvOk (er Z H1) Γf fs) (hb : ∀ i, i < n → GivesD te (some (e i) :: Γf) (g i))
    (fin : ∀ H, Same H1 H → RX (er Z H) (.list ((List.range n).map g)) (.ref D) → done H) : tBlk K .one tAll (tAppend D te) fs J (upd H1 D (.lst [])) done := by
  have hDZ : D ∉ Z := fun m => z D m hD
  have se : ∀ H, Same H1 H → Same (er Z H1) (er (D :: Z) H) := fun H s b o h => by
    have h1 := er_some h
    have nb : b ≠ D := fun q => by subst q; rw [hD] at h1; cases h1
    unfold er at h ⊢
    split at h
    · cases h
    · rename_i nz
      rw [if_neg (by simp [nb, nz])]
      exact s _ _ h1
  refine blk_invm F (fun i acc H => Same H1 H ∧ H D = some (.lst acc) ∧ RXs (er (D :: Z) H) ((List.range i).map g) acc) ⟨fun b o e => by rw [upd_ne (ne_of_none e hD)]; exact e, upd_same, rfl⟩ (fun i acc H _ h => hG H h.1)
    (fun i acc H _ h => ⟨h.2.1, by rw [rxs_len h.2.2]; simp⟩) (by rw [sizeLine_eq]; omega) (fun i acc H hi ⟨h1, h2, h3⟩ QY qy => ?_) (fun acc H ⟨h1, h2, h3⟩ => fin H h1 ⟨D, acc, rfl, ?_, h3.same (er_out Z H D)⟩)
  · obtain ⟨x, ex, rx⟩ := hx i hi
    rw [ex]
    refine hb i hi (D :: Z) (some x :: fs) H QY (fun b m => ?_) (env_cons (hf.same (se H h1)) (rx.same (se H h1))) fun v H3 s3 r3 => qy v H3 (s3 _ _ h2) ⟨fun b o e => ?_, upd_same, ?_⟩
    · rcases List.mem_cons.mp m with rfl | m
      · rw [h2]; exact fun q => by cases q
      · exact z_same h1 z b m
    · rw [upd_ne (ne_of_none e hD)]
      exact s3 _ _ (h1 _ _ e)
    · rw [er_in, List.range_succ, List.map_append]
      exact rxs_app (h3.same (er_mono s3)) ⟨v, [], rfl, r3, rfl⟩
  · unfold er
    rw [if_neg hDZ]
    exact h2
theorem map_getD {α β : Type} (f : α → β) (d : α) : ∀ (es : List α), (List.range es.length).map (fun i => f (es.getD i d)) = es.map f := fun es => by
  refine List.ext_getElem (by simp) fun i h1 h2 => ?_
  have : i < es.length := by simpa using h2
  simp [List.getD, this]
theorem gd_lcL {tl : TE} {te : Bk → TE} {js : List Nat} {es : List PyData} {g : PyData → PyData} (h : GivesD tl Γ (.list es)) (hb : ∀ b d, GivesD (te b) (some d :: js.map fun j => (Γ[j]?).join) (g d)) (hn : es.length ≤ 10000) :
    GivesD (tLC K (iList K tl) .one (fun _ => tAll) te js) Γ (.list (es.map g)) := fun Z σ H Q z e q =>
  h Z σ H _ z e fun v H1 s1 r1 => by
    obtain ⟨a, us, rfl, ha1, x1⟩ := r1
    have z1 := z_same s1 z
    have l1 := rxs_len x1
    refine ⟨a, rfl, ⟨us, SqL.of (er_some ha1)⟩, fun D hD b => blk_dat (Γf := js.map fun j => (Γ[j]?).join) (fx_list a us) (fun i => es.getD i .none) (fun i => g (es.getD i .none)) (by omega) hD z1 (fun H2 s2 => SqL.of (s2 _ _ (er_some ha1))) (fun i hi => ⟨_, rfl, rxs_at x1 (by omega)⟩) ((env_free e js).same (er_mono s1))
      (fun i _ => hb b _) fun H2 s2 r2 => q _ _ (s1.trans s2) ?_⟩
    rw [l1, map_getD] at r2
    exact r2
theorem gd_lcS {tl : TE} {te : Bk → TE} {js : List Nat} {s : Str} {g : PyData → PyData} (h : GivesD tl Γ (.str s)) (hb : ∀ b d, GivesD (te b) (some d :: js.map fun j => (Γ[j]?).join) (g d)) (hn : s.cps.size ≤ 10000) :
    GivesD (tLC K (iStr tl) .one (fun _ => tAll) te js) Γ (.list ((List.range s.cps.size).map fun i => g (.str ⟨#[s.cps.getD i 0]⟩))) := fun Z σ H Q z e q =>
  h Z σ H _ z e fun v H1 s1 r1 => by
    cases (show v = .str s from r1)
    exact ⟨s, rfl, fun D hD b => blk_dat (Γf := js.map fun j => (Γ[j]?).join) (fx_str s) (fun i => .str ⟨#[s.cps.getD i 0]⟩) (fun i => g (.str ⟨#[s.cps.getD i 0]⟩)) hn hD (z_same s1 z) (fun H2 s2 => trivial) (fun i hi => ⟨_, rfl, rfl⟩) ((env_free e js).same (er_mono s1))
      (fun i _ => hb b _) fun H2 s2 r2 => q _ _ (s1.trans s2) r2⟩
end
end L2

set_option maxHeartbeats 4000000
namespace L2
open PySem PySem.Spec PyProof.Rows PySem.W
section
variable {Γ : Env1} {K : PySem.W.Frag}
theorem gd_lcR {ta : TA} {te : Bk → TE} {js : List Nat} {k : Nat} {g : PyData → PyData} (h : GivesDs ta Γ [.int k]) (hb : ∀ b d, GivesD (te b) (some d :: js.map fun j => (Γ[j]?).join) (g d)) (hn : k ≤ 10000) :
    GivesD (tLC K (iRng1 ta) .one (fun _ => tAll) te js) Γ (.list ((List.range k).map fun (i : Nat) => g (.int (i : Int)))) := fun Z σ H Q z e q =>
  h Z σ H _ z e fun vs H1 s1 r1 => by
    obtain ⟨v, r, rfl, rv, hr⟩ := r1
    cases (show r = [] from hr)
    cases (show v = .int k from rv)
    refine ⟨k, rfl, by omega, by omega, fun D hD b => blk_dat (Γf := js.map fun j => (Γ[j]?).join) (fx_range 0 (k : Int).toNat) (fun (i : Nat) => .int (i : Int)) (fun (i : Nat) => g (.int (i : Int))) (by omega) hD (z_same s1 z) (fun H2 s2 => trivial) (fun i hi => ⟨_, rfl, ?_⟩) ((env_free e js).same (er_mono s1))
      (fun i _ => hb b _) fun H2 s2 r2 => q _ _ (s1.trans s2) ?_⟩
    · show V.int (0 + i) = V.int i
      rw [Int.zero_add]
    · rw [Int.toNat_natCast] at r2
      exact r2
theorem gd_lcT {tl : TE} {te : Bk → TE} {js : List Nat} {es : List PyData} {g : PyData → PyData} (h : GivesD tl Γ (.tuple es)) (hb : ∀ b d, d ∈ es → GivesD (te b) (some d :: js.map fun j => (Γ[j]?).join) (g d)) (hn : es.length ≤ 10000) :
    GivesD (tLC K (iTup K tl) .one (fun _ => tAll) te js) Γ (.list (es.map g)) := fun Z σ H Q z e q =>
  h Z σ H _ z e fun v H1 s1 r1 => by
    obtain ⟨a, us, rfl, ha1, x1⟩ := r1
    have z1 := z_same s1 z
    have l1 := rxs_len x1
    refine ⟨a, rfl, ⟨us, SqT.of (er_some ha1)⟩, fun D hD b => blk_dat (Γf := js.map fun j => (Γ[j]?).join) (fx_tup a us) (fun i => es.getD i .none) (fun i => g (es.getD i .none)) (by omega) hD z1 (fun H2 s2 => SqT.of (s2 _ _ (er_some ha1))) (fun i hi => ⟨_, rfl, rxs_at x1 (by omega)⟩) ((env_free e js).same (er_mono s1))
      (fun i hi => hb b _ ?_) fun H2 s2 r2 => q _ _ (s1.trans s2) ?_⟩
    · have hi' : i < es.length := by omega
      simp [List.getD, hi']
    · rw [l1, map_getD] at r2
      exact r2
theorem gd_ixL {ta tb : TE} {as : List PyData} {i : Nat} {d : PyData} (h : GivesD ta Γ (.list as)) (g : GivesD tb Γ (.int i)) (hd : as[i]? = some d) : GivesD (tOp (rIxL K) ta tb) Γ d := fun Z σ H Q z e q =>
  h Z σ H _ z e fun v H1 s1 r1 => g Z σ H1 _ (z_same s1 z) (e.same (er_mono s1)) fun u H2 s2 r2 => by
    obtain ⟨a, us, rfl, ha1, x1⟩ := r1.same (er_mono s2)
    cases (show u = .int i from r2)
    obtain ⟨hi, e1⟩ := List.getElem?_eq_some_iff.mp hd
    have l1 := rxs_len x1
    have rx := rxs_at x1 hi
    have e2 : as.getD i .none = d := by simp [List.getD, hi, e1]
    rw [e2] at rx
    refine ⟨a, us, i, us.getD i .non, rfl, rfl, SqL.of (er_some ha1), atI_nat ?_, q _ _ (s1.trans s2) rx⟩
    have : i < us.length := by omega
    simp [List.getD, this]
theorem gd_mulS {ta tb : TE} {s : Str} {n : Int} (h : GivesD ta Γ (.str s)) (g : GivesD tb Γ (.int n)) (h1 : 2 ≤ n) (h2 : 1 ≤ s.length) (h3 : s.length * n.toNat ≤ sizeLine) (h4 : (repS s n.toNat).length ≤ sizeLine) :
    GivesD (tOp (fun x y H Q => ∃ z n, x = .str z ∧ y = .int n ∧ 2 ≤ n ∧ 1 ≤ z.length ∧ z.length * n.toNat ≤ sizeLine ∧ (repS z n.toNat).length ≤ sizeLine ∧ Q (.str (repS z n.toNat)) H) ta tb) Γ (.str (repS s n.toNat)) := fun Z σ H Q z e q =>
  h Z σ H _ z e fun v H1 s1 r1 => g Z σ H1 _ (z_same s1 z) (e.same (er_mono s1)) fun u H2 s2 r2 => by
    cases (show v = .str s from r1)
    cases (show u = .int n from r2)
    exact ⟨s, n, rfl, rfl, h1, h2, h3, h4, q _ _ (s1.trans s2) rfl⟩
/-! ### tests -/
def GivesB (t : TT) (Γ : Env1) (c : Bool) : Prop := ∀ Z σ H (Q : Bool → Hp → Prop), (∀ b, b ∈ Z → H b ≠ none) → EnvOk (er Z H) Γ σ → (∀ H', Same H H' → Q c H') → t σ H Q
theorem rxs_strs {H : Hp} : ∀ {zs : List Str} {us : List V}, RXs H (zs.map PyData.str) us → us = zs.map V.str
  | [], _, h => h
  | z :: zs, _, h => by
    obtain ⟨v, r, rfl, a, t⟩ := h
    rw [rxs_strs t, List.map_cons]
    cases (show v = .str z from a)
    rfl
theorem gb_notin {ta tb : TE} {d : PyData} {zs : List Str} (h : GivesD ta Γ d) (g : GivesD tb Γ (.list (zs.map PyData.str))) :
    GivesB (tTest (tOp (fun x y H Q => ∃ d l zs, y = .ref l ∧ H l = some (.lst (zs.map V.str)) ∧ RX H d x ∧ Q (.bl (!inStrs zs d)) H) ta tb)) Γ (!inStrs zs d) := fun Z σ H Q z e q =>
  h Z σ H _ z e fun v H1 s1 r1 => g Z σ H1 _ (z_same s1 z) (e.same (er_mono s1)) fun u H2 s2 r2 => by
    obtain ⟨a, us, rfl, ha1, x1⟩ := r2
    have := rxs_strs x1
    subst this
    exact ⟨d, a, zs, rfl, er_some ha1, (r1.same (er_mono s2)).same (er_le _ _), _, rfl, q _ (s1.trans s2)⟩
/-- with a test -/
theorem gd_lcF {tl : TE} {ts : Bk → TT} {te : Bk → TE} {js : List Nat} {s : Str} {c : PyData → Bool} {g : PyData → PyData} (h : GivesD tl Γ (.str s)) (hc : ∀ b i, i < s.cps.size → GivesB (ts b) (some (.str ⟨#[s.cps.getD i 0]⟩) :: js.map fun j => (Γ[j]?).join) (c (.str ⟨#[s.cps.getD i 0]⟩)))
    (hb : ∀ b i, i < s.cps.size → GivesD (te b) (some (.str ⟨#[s.cps.getD i 0]⟩) :: js.map fun j => (Γ[j]?).join) (g (.str ⟨#[s.cps.getD i 0]⟩))) (hn : s.cps.size ≤ 10000) :
    GivesD (tLC K (iStr tl) .one ts te js) Γ (.list ((((List.range s.cps.size).map fun i => PyData.str ⟨#[s.cps.getD i 0]⟩).filter c).map g)) := fun Z σ H Q z0 e0 q =>
  h Z σ H _ z0 e0 fun v H1 s1 r1 => by
    cases (show v = .str s from r1)
    refine ⟨s, rfl, fun D hD b => ?_⟩
    have z := z_same s1 z0
    have hf := (env_free e0 js).same (er_mono s1)
    have hDZ : D ∉ Z := fun m => z D m hD
    have se : ∀ H, Same H1 H → Same (er Z H1) (er (D :: Z) H) := fun H s b o h => by
      have h1 := er_some h
      have nb : b ≠ D := fun q => by subst q; rw [hD] at h1; cases h1
      unfold er at h ⊢
      split at h
      · cases h
      · rename_i nz
        rw [if_neg (by simp [nb, nz])]
        exact s _ _ h1
    have hzz : ∀ H acc, Same H1 H → H D = some (.lst acc) → ∀ b, b ∈ D :: Z → H b ≠ none := fun H acc h1 h2 b m => by
      rcases List.mem_cons.mp m with rfl | m
      · rw [h2]; exact fun q => by cases q
      · exact z_same h1 z b m
    refine blk_inv (fx_str s) (fun i acc H => Same H1 H ∧ H D = some (.lst acc) ∧ RXs (er (D :: Z) H) ((((List.range i).map fun i => PyData.str ⟨#[s.cps.getD i 0]⟩).filter c).map g) acc) ⟨fun b o e => by rw [upd_ne (ne_of_none e hD)]; exact e, upd_same, rfl⟩ (fun i acc H _ h => trivial)
      (fun i acc H _ h => ⟨h.2.1, by rw [rxs_len h.2.2, List.length_map]; exact Nat.le_trans (List.length_filter_le _ _) (by simp)⟩) (by rw [sizeLine_eq]; omega) (fun i acc H hi ⟨h1, h2, h3⟩ QY QN qy qn => ?_) (fun acc H ⟨h1, h2, h3⟩ => q _ _ (s1.trans h1) ⟨D, acc, rfl, ?_, h3.same (er_out Z H D)⟩)
    · have ev : ∀ H', Same H H' → EnvOk (er (D :: Z) H') (some (.str ⟨#[s.cps.getD i 0]⟩) :: js.map fun j => (Γ[j]?).join) (some (V.str ⟨#[s.cps.getD i 0]⟩) :: frees js σ) := fun H' s' => env_cons (hf.same (se H' (h1.trans s'))) rfl
      refine hc b i hi (D :: Z) _ H _ (hzz H acc h1 h2) (ev H (Same.refl H)) fun H2 s2 => ?_
      have e1 : ((List.range (i + 1)).map fun i => PyData.str ⟨#[s.cps.getD i 0]⟩).filter c = ((List.range i).map fun i => PyData.str ⟨#[s.cps.getD i 0]⟩).filter c ++ (if c (.str ⟨#[s.cps.getD i 0]⟩) = true then [.str ⟨#[s.cps.getD i 0]⟩] else []) := by
        rw [List.range_succ, List.map_append, List.filter_append]
        congr 1
        simp only [List.map_cons, List.map_nil, List.filter_cons, List.filter_nil]
      by_cases hcc : c (.str ⟨#[s.cps.getD i 0]⟩) = true
      · rw [if_pos hcc]
        rw [if_pos hcc] at e1
        refine hb b i hi (D :: Z) _ H2 QY (hzz H2 acc (h1.trans s2) (s2 _ _ h2)) (ev H2 s2) fun v H3 s3 r3 => qy v H3 (s3 _ _ (s2 _ _ h2)) ⟨fun b o e => ?_, upd_same, ?_⟩
        · rw [upd_ne (ne_of_none e hD)]
          exact s3 _ _ (s2 _ _ (h1 _ _ e))
        · rw [er_in, e1, List.map_append]
          exact rxs_app (h3.same (er_mono (s2.trans s3))) ⟨v, [], rfl, r3, rfl⟩
      · rw [if_neg hcc]
        rw [if_neg hcc, List.append_nil] at e1
        refine qn H2 ⟨h1.trans s2, s2 _ _ h2, ?_⟩
        rw [e1]
        exact h3.same (er_mono s2)
    · unfold er
      rw [if_neg hDZ]
      exact h2
end
end L2
namespace L2
open PySem PySem.Spec PyProof.Rows PySem.W
section
variable {Γ : Env1} {K : PySem.W.Frag}
/-! ### the same with bounds that a reading decides -/
theorem ble_le {n m : Nat} (h : Nat.ble n m = true) : n ≤ m := Nat.le_of_ble_eq_true h
theorem gdTup {t : TA} {ds : List PyData} (h : GivesDs t Γ ds) (hl : Nat.ble ds.length 10000 = true) : GivesD (tTup t) Γ (.tuple ds) := gd_tup h (ble_le hl)
theorem gdLst {t : TA} {ds : List PyData} (h : GivesDs t Γ ds) (hl : Nat.ble ds.length 10000 = true) : GivesD (tLst t) Γ (.list ds) := gd_lst h (ble_le hl)
theorem gdCatT {ta tb : TE} {as bs : List PyData} (h : GivesD ta Γ (.tuple as)) (g : GivesD tb Γ (.tuple bs)) (ha : as.isEmpty = false) (hl : Nat.ble (as.length + bs.length) 10000 = true) : GivesD (tOp (rCatT K) ta tb) Γ (.tuple (as ++ bs)) :=
  gd_catT h g (fun z => by subst z; cases ha) (ble_le hl)
theorem gdCatL {ta tb : TE} {as bs : List PyData} (h : GivesD ta Γ (.list as)) (g : GivesD tb Γ (.list bs)) (hl : Nat.ble (as.length + bs.length) 10000 = true) : GivesD (tOp rCat ta tb) Γ (.list (as ++ bs)) := gd_catL h g (ble_le hl)
theorem gdRepT {ta tb : TE} {ds : List PyData} {k : Int} (h : GivesD ta Γ (.tuple ds)) (g : GivesD tb Γ (.int k)) (hd : ds.isEmpty = false) (hk : decide (2 ≤ k) = true) (hl : Nat.ble (ds.length * k.toNat) 10000 = true) : GivesD (tOp (rRepT K) ta tb) Γ (.tuple (List.replicate k.toNat ds).flatten) :=
  gd_repT h g (fun z => by subst z; cases hd) (of_decide_eq_true hk) (ble_le hl)
theorem gdIxT (i : Nat) {ta : TE} {as : List PyData} {d : PyData} (h : GivesD ta Γ (.tuple as)) (hd : as[i]? = some d) : GivesD (tOp (rIxT K) ta (tC (.int (i : Int)))) Γ d := gd_ixT h gd_int hd
theorem gdIxL (i : Nat) {ta : TE} {as : List PyData} {d : PyData} (h : GivesD ta Γ (.list as)) (hd : as[i]? = some d) : GivesD (tOp (rIxL K) ta (tC (.int (i : Int)))) Γ d := gd_ixL h gd_int hd
theorem gdLcL {tl : TE} {te : Bk → TE} {js : List Nat} {es : List PyData} {g : PyData → PyData} (h : GivesD tl Γ (.list es)) (hb : ∀ b d, GivesD (te b) (some d :: js.map fun j => (Γ[j]?).join) (g d)) (hn : Nat.ble es.length 10000 = true) :
    GivesD (tLC K (iList K tl) .one (fun _ => tAll) te js) Γ (.list (es.map g)) := gd_lcL h hb (ble_le hn)
theorem gdLcS {tl : TE} {te : Bk → TE} {js : List Nat} {s : Str} {g : PyData → PyData} (h : GivesD tl Γ (.str s)) (hb : ∀ b d, GivesD (te b) (some d :: js.map fun j => (Γ[j]?).join) (g d)) (hn : Nat.ble s.cps.size 10000 = true) :
    GivesD (tLC K (iStr tl) .one (fun _ => tAll) te js) Γ (.list ((List.range s.cps.size).map fun i => g (.str ⟨#[s.cps.getD i 0]⟩))) := gd_lcS h hb (ble_le hn)
theorem gdLcR {ta : TA} {te : Bk → TE} {js : List Nat} {k : Nat} {g : PyData → PyData} (h : GivesDs ta Γ [.int k]) (hb : ∀ b d, GivesD (te b) (some d :: js.map fun j => (Γ[j]?).join) (g d)) (hn : Nat.ble k 10000 = true) :
    GivesD (tLC K (iRng1 ta) .one (fun _ => tAll) te js) Γ (.list ((List.range k).map fun (i : Nat) => g (.int (i : Int)))) := gd_lcR h hb (ble_le hn)
theorem EndsD.use {t : TS} {d : PyData} (h : EndsD t Γ d) {D : Ends} {σ : St} {H : Hp} (e : EnvOk H Γ σ) (q : ∀ v H', Same H H' → RX H' d v → D.rt v H') : t D σ H := h D σ H e q
theorem ed_two {t : TE} {u : TS} {i j : Nat} {d1 d2 e : PyData} (h : GivesD t Γ (.tuple [d1, d2])) (g : EndsD u ((Γ.set i (some d1)).set j (some d2)) e) : EndsD (tSeq (tAsg t (gTup K 2 (gCons (gName i) (gCons (gName j) gNil)))) u) Γ e := fun D σ H en q =>
  h.run en fun v H1 s1 r1 => by
    obtain ⟨a, us, rfl, ha, v1, r, rfl, x1, v2, r', rfl, x2, hr⟩ := r1
    cases (show r' = [] from hr)
    exact ⟨a, _, rfl, SqT.of ha, rfl, v1, _, rfl, v2, _, rfl, rfl, g { D with } _ H1 (((en.same s1).set x1).set x2) fun x H2 s2 r2 => q x H2 (s1.trans s2) r2⟩
end
end L2

set_option maxHeartbeats 4000000
namespace L2
open PySem PySem.Spec PyProof.Rows PySem.W
section
variable {X : Cx}
/-- d != e, both data -/
theorem op_ne_data (hu : X.A.units + 64 < cLine) : OpR X (compareOp .NotEq) (fun x y H Q => ∃ d e, RX H d x ∧ RX H e y ∧ PySem.SeqAt.shaped d = true ∧ PySem.SeqAt.shaped e = true ∧ Q (.bl (!PyData.eqv d e)) H) := by
  intro pins s σ H x y v u Q I rx ry h
  obtain ⟨d, e, hd, he, h1, h2, q⟩ := h
  obtain ⟨as, ra⟩ := RD.reads I (hd.rd (K := X.K)) rx
  obtain ⟨bs, rb⟩ := RD.reads I (he.rd (K := X.K)) ry
  exact ne_dataH ra rb h1 h2 hu ⟨.bl _, H, I, rfl, q⟩
theorem pe_fn0 {x : Str} {k : Nat} {sp : Sp} {p pos : Pos} (F : Has X.prog X.w X.K X.mg X.base x k [] sp) (hr : Room k X.A) (hg : Gl X x) (hdb : (x == ("__debug__" : Str)) = false := by decide) : PE X (.Call (.Name x p) [] [] pos) (tCall sp [] E0 tNil) := by
  obtain ⟨f, fd, h1, h2, h3, h4⟩ := F.ex
  exact pe_call0 h4 hr hg h1 h2 h3 .nil pass0 hdb
end
section
variable {Γ : Env1} {K : PySem.W.Frag}
/-- a reading gives d (nothing kept out) -/
def GivesR (t : TE) (Γ : Env1) (d : PyData) : Prop := ∀ σ H (Q : VK), EnvOk H Γ σ → (∀ v H', Same H H' → RX H' d v → Q v H') → t σ H Q
theorem GivesD.r {t : TE} {d : PyData} (h : GivesD t Γ d) : GivesR t Γ d := fun σ H Q e q => h.run e q
theorem GivesDs.run {t : TA} {ds : List PyData} (h : GivesDs t Γ ds) {σ : St} {H : Hp} {Q : List V → Hp → Prop} (e : EnvOk H Γ σ) (q : ∀ vs H', Same H H' → RXs H' ds vs → Q vs H') : t σ H Q :=
  h [] σ H Q (fun _ m => by cases m) (by rw [er_nil]; exact e) fun v H' s r => q v H' s (by rw [er_nil] at r; exact r)
theorem gr_catL {ta tb : TE} {as bs : List PyData} (h : GivesR ta Γ (.list as)) (g : GivesR tb Γ (.list bs)) (hl : as.length + bs.length ≤ 10000) : GivesR (tOp rCat ta tb) Γ (.list (as ++ bs)) := fun σ H Q e q =>
  h σ H _ e fun v H1 s1 r1 => g σ H1 _ (e.same s1) fun u H2 s2 r2 => by
    obtain ⟨a, us, rfl, ha1, x1⟩ := r1.same s2
    obtain ⟨b, vs, rfl, hb1, x2⟩ := r2
    have l1 := rxs_len x1
    have l2 := rxs_len x2
    refine ⟨a, b, us, vs, rfl, rfl, ha1, hb1, by rw [sizeLine_eq]; omega, fun p hp => ?_⟩
    have sp := Same.upd (o := .lst (us ++ vs)) hp
    exact q _ _ ((s1.trans s2).trans sp) ⟨p, _, rfl, upd_same, rxs_app (x1.same sp) (x2.same sp)⟩
end
end L2

set_option maxHeartbeats 4000000
namespace K02
open PySem L2
def top (i : Nat) : Stmt := PySem.Challenge.pw_rankseals_k02_what_a_house_is.main.body.getD i (.Pass ⟨0, 0, 0, 0⟩)
abbrev s_is_name : Stmt := top 2
theorem sc_is_name : FnScope (["thing"] : List Str) (["thing"] : List Str) (defScope s_is_name) := ⟨rfl, rfl, rfl, by decide +kernel, rfl, by decide +kernel, by decide +kernel⟩
abbrev s_is_number : Stmt := top 3
theorem sc_is_number : FnScope (["thing"] : List Str) (["thing"] : List Str) (defScope s_is_number) := ⟨rfl, rfl, rfl, by decide +kernel, rfl, by decide +kernel, by decide +kernel⟩
abbrev s_empty_house : Stmt := top 12
theorem sc_empty_house : FnScope ([] : List Str) ([] : List Str) (defScope s_empty_house) := ⟨rfl, rfl, rfl, by decide +kernel, rfl, by decide +kernel, by decide +kernel⟩
abbrev s_is_house : Stmt := top 13
theorem sc_is_house : FnScope (["thing", "parts", "ranks", "leaves", "rules", "names"] : List Str) (["thing"] : List Str) (defScope s_is_house) := ⟨rfl, rfl, rfl, by decide +kernel, rfl, by decide +kernel, by decide +kernel⟩
abbrev s_are_parts : Stmt := top 14
theorem sc_are_parts : FnScope (["thing", "names", "outer"] : List Str) (["thing"] : List Str) (defScope s_are_parts) := ⟨rfl, rfl, rfl, by decide +kernel, rfl, by decide +kernel, by decide +kernel⟩
abbrev s_comes_to_an_end : Stmt := top 15
theorem sc_comes_to_an_end : FnScope (["outer", "name", "step"] : List Str) (["outer", "name"] : List Str) (defScope s_comes_to_an_end) := ⟨rfl, rfl, rfl, by decide +kernel, rfl, by decide +kernel, by decide +kernel⟩
abbrev s_are_ranks : Stmt := top 16
theorem sc_are_ranks : FnScope (["thing", "names"] : List Str) (["thing", "names"] : List Str) (defScope s_are_ranks) := ⟨rfl, rfl, rfl, by decide +kernel, rfl, by decide +kernel, by decide +kernel⟩
abbrev s_is_rank_row : Stmt := top 17
theorem sc_is_rank_row : FnScope (["row", "names", "number", "person", "rank", "part", "first", "last"] : List Str) (["row", "names"] : List Str) (defScope s_is_rank_row) := ⟨rfl, rfl, rfl, by decide +kernel, rfl, by decide +kernel, by decide +kernel⟩
abbrev s_are_leaves : Stmt := top 18
theorem sc_are_leaves : FnScope (["thing", "names"] : List Str) (["thing", "names"] : List Str) (defScope s_are_leaves) := ⟨rfl, rfl, rfl, by decide +kernel, rfl, by decide +kernel, by decide +kernel⟩
abbrev s_is_leave_row : Stmt := top 19
theorem sc_is_leave_row : FnScope (["row", "names", "number", "giver", "taker", "part", "first", "last", "most"] : List Str) (["row", "names"] : List Str) (defScope s_is_leave_row) := ⟨rfl, rfl, rfl, by decide +kernel, rfl, by decide +kernel, by decide +kernel⟩
abbrev s_are_rules : Stmt := top 20
theorem sc_are_rules : FnScope (["thing", "names"] : List Str) (["thing", "names"] : List Str) (defScope s_are_rules) := ⟨rfl, rfl, rfl, by decide +kernel, rfl, by decide +kernel, by decide +kernel⟩
abbrev s_is_rule_row : Stmt := top 21
theorem sc_is_rule_row : FnScope (["row", "names", "part", "bound", "seats"] : List Str) (["row", "names"] : List Str) (defScope s_is_rule_row) := ⟨rfl, rfl, rfl, by decide +kernel, rfl, by decide +kernel, by decide +kernel⟩
abbrev s_is_tuple_of : Stmt := top 22
theorem sc_is_tuple_of : FnScope (["thing", "many"] : List Str) (["thing", "many"] : List Str) (defScope s_is_tuple_of) := ⟨rfl, rfl, rfl, by decide +kernel, rfl, by decide +kernel, by decide +kernel⟩
abbrev s_are_tuples_of : Stmt := top 23
theorem sc_are_tuples_of : FnScope (["thing", "many", "most"] : List Str) (["thing", "many", "most"] : List Str) (defScope s_are_tuples_of) := ⟨rfl, rfl, rfl, by decide +kernel, rfl, by decide +kernel, by decide +kernel⟩
abbrev s_is_rising : Stmt := top 24
theorem sc_is_rising : FnScope (["keys"] : List Str) (["keys"] : List Str) (defScope s_is_rising) := ⟨rfl, rfl, rfl, by decide +kernel, rfl, by decide +kernel, by decide +kernel⟩
abbrev s_is_from_nought : Stmt := top 25
theorem sc_is_from_nought : FnScope (["thing"] : List Str) (["thing"] : List Str) (defScope s_is_from_nought) := ⟨rfl, rfl, rfl, by decide +kernel, rfl, by decide +kernel, by decide +kernel⟩
abbrev s_is_rank : Stmt := top 26
theorem sc_is_rank : FnScope (["thing"] : List Str) (["thing"] : List Str) (defScope s_is_rank) := ⟨rfl, rfl, rfl, by decide +kernel, rfl, by decide +kernel, by decide +kernel⟩
abbrev s_are_days : Stmt := top 27
theorem sc_are_days : FnScope (["first", "last"] : List Str) (["first", "last"] : List Str) (defScope s_are_days) := ⟨rfl, rfl, rfl, by decide +kernel, rfl, by decide +kernel, by decide +kernel⟩
abbrev s_Lbox : Stmt := top 29
theorem sc_Lbox : FnScope (["_law_script", "_law_k", "_law_cell"] : List Str) (["_law_script", "_law_k"] : List Str) (defScope s_Lbox) := ⟨rfl, rfl, rfl, by decide +kernel, rfl, by decide +kernel, by decide +kernel⟩
abbrev s_Ltake : Stmt := top 30
theorem sc_Ltake : FnScope (["_law_box_here", "_law_many_here", "_law_found", "_law_once"] : List Str) (["_law_box_here", "_law_many_here"] : List Str) (defScope s_Ltake) := ⟨rfl, rfl, rfl, by decide +kernel, rfl, by decide +kernel, by decide +kernel⟩
abbrev s_Lnames : Stmt := top 31
theorem sc_Lnames : FnScope (["_law_box_here", "_law_many_here", "_law_letters", "_law_found", "_law_k", "_law_size", "_law_name"] : List Str) (["_law_box_here", "_law_many_here"] : List Str) (defScope s_Lnames) := ⟨rfl, rfl, rfl, by decide +kernel, rfl, by decide +kernel, by decide +kernel⟩
abbrev s_Lday : Stmt := top 32
theorem sc_Lday : FnScope (["_law_box_here", "_law_way"] : List Str) (["_law_box_here"] : List Str) (defScope s_Lday) := ⟨rfl, rfl, rfl, by decide +kernel, rfl, by decide +kernel, by decide +kernel⟩
abbrev s_Lsum : Stmt := top 33
theorem sc_Lsum : FnScope (["_law_box_here"] : List Str) (["_law_box_here"] : List Str) (defScope s_Lsum) := ⟨rfl, rfl, rfl, by decide +kernel, rfl, by decide +kernel, by decide +kernel⟩
abbrev s_Lnumbers : Stmt := top 34
theorem sc_Lnumbers : FnScope (["_law_box_here", "_law_many_here", "_law_found", "_law_next_one", "_law_k"] : List Str) (["_law_box_here", "_law_many_here"] : List Str) (defScope s_Lnumbers) := ⟨rfl, rfl, rfl, by decide +kernel, rfl, by decide +kernel, by decide +kernel⟩
abbrev s_Lmany : Stmt := top 35
theorem sc_Lmany : FnScope (["_law_box_here", "_law_most"] : List Str) (["_law_box_here", "_law_most"] : List Str) (defScope s_Lmany) := ⟨rfl, rfl, rfl, by decide +kernel, rfl, by decide +kernel, by decide +kernel⟩
abbrev s_Lparts : Stmt := top 36
theorem sc_Lparts : FnScope (["_law_box_here", "_law_names_here", "_law_rows", "_law_k"] : List Str) (["_law_box_here", "_law_names_here"] : List Str) (defScope s_Lparts) := ⟨rfl, rfl, rfl, by decide +kernel, rfl, by decide +kernel, by decide +kernel⟩
abbrev s_Lhouse : Stmt := top 37
theorem sc_Lhouse : FnScope (["_law_box_here", "_law_names_here", "_law_parts_here", "_law_own", "_law_ranks", "_law_leaves", "_law_rules", "_law_number", "_law_days", "_law_who", "_law_where", "_law_at", "_law_taker", "_law_k", "_law_key", "_law_seats", "_law_j", "_law_part", "_law_rows"] : List Str) (["_law_box_here", "_law_names_here"] : List Str) (defScope s_Lhouse) := ⟨rfl, rfl, rfl, by decide +kernel, rfl, by decide +kernel, by decide +kernel⟩
abbrev s_Lbad_parts : Stmt := top 38
theorem sc_Lbad_parts : FnScope (["_law_house_here", "_law_parts_here", "_law_rest", "_law_strange", "_law_one", "_law_some"] : List Str) (["_law_house_here"] : List Str) (defScope s_Lbad_parts) := ⟨rfl, rfl, rfl, by decide +kernel, rfl, by decide +kernel, by decide +kernel⟩
abbrev s_Lbad_ranks : Stmt := top 39
theorem sc_Lbad_ranks : FnScope (["_law_house_here", "_law_part", "_law_strange", "_law_row", "_law_some"] : List Str) (["_law_house_here"] : List Str) (defScope s_Lbad_ranks) := ⟨rfl, rfl, rfl, by decide +kernel, rfl, by decide +kernel, by decide +kernel⟩
abbrev s_Lbad_leaves : Stmt := top 40
theorem sc_Lbad_leaves : FnScope (["_law_house_here", "_law_part", "_law_strange", "_law_row", "_law_some"] : List Str) (["_law_house_here"] : List Str) (defScope s_Lbad_leaves) := ⟨rfl, rfl, rfl, by decide +kernel, rfl, by decide +kernel, by decide +kernel⟩
abbrev s_Lbad_rules : Stmt := top 41
theorem sc_Lbad_rules : FnScope (["_law_house_here", "_law_part", "_law_strange", "_law_row", "_law_some"] : List Str) (["_law_house_here"] : List Str) (defScope s_Lbad_rules) := ⟨rfl, rfl, rfl, by decide +kernel, rfl, by decide +kernel, by decide +kernel⟩
abbrev s_Lsays : Stmt := top 42
theorem sc_Lsays : FnScope (["_law_thing", "_law_due", "_law_kept", "_law_found"] : List Str) (["_law_thing", "_law_due"] : List Str) (defScope s_Lsays) := ⟨rfl, rfl, rfl, by decide +kernel, rfl, by decide +kernel, by decide +kernel⟩
abbrev s_law : Stmt := top 43
theorem sc_law : FnScope (["_law_script", "_law_k", "_law_box_here", "_law_house_here", "_law_bad"] : List Str) (["_law_script"] : List Str) (defScope s_law) := ⟨rfl, rfl, rfl, by decide +kernel, rfl, by decide +kernel, by decide +kernel⟩
structure Txt (K : PySem.W.Frag) (mg : Str → Option Value) (k_HIGHEST_RANK k_LOWEST_RANK k_MOST_LEAVES k_MOST_LETTERS k_MOST_PARTS k_MOST_RANKS k_MOST_RULES k_MOST_SEATS : Tok) : Prop where
  b_abs : mg "abs" = none
  b_all : mg "all" = none
  b_bool : mg "bool" = none
  b_int : mg "int" = none
  b_isinstance : mg "isinstance" = none
  b_len : mg "len" = none
  b_list : mg "list" = none
  b_max : mg "max" = none
  b_min : mg "min" = none
  b_range : mg "range" = none
  b_repr : mg "repr" = none
  b_sorted : mg "sorted" = none
  b_str : mg "str" = none
  b_tuple : mg "tuple" = none
  b_zip : mg "zip" = none
  c_HIGHEST_RANK : mg "HIGHEST_RANK" = some (.int 9 k_HIGHEST_RANK)
  c_LOWEST_RANK : mg "LOWEST_RANK" = some (.int 1 k_LOWEST_RANK)
  c_MOST_LEAVES : mg "MOST_LEAVES" = some (.int 16 k_MOST_LEAVES)
  c_MOST_LETTERS : mg "MOST_LETTERS" = some (.int 8 k_MOST_LETTERS)
  c_MOST_PARTS : mg "MOST_PARTS" = some (.int 8 k_MOST_PARTS)
  c_MOST_RANKS : mg "MOST_RANKS" = some (.int 20 k_MOST_RANKS)
  c_MOST_RULES : mg "MOST_RULES" = some (.int 10 k_MOST_RULES)
  c_MOST_SEATS : mg "MOST_SEATS" = some (.int 6 k_MOST_SEATS)

theorem seq_hide {t u : L2.TS} {D : Ends} {σ : St} {H : Hp} (h : ∀ R : St → Hp → Prop, (∀ σ H, u D σ H → R σ H) → t { D with nx := R } σ H) : tSeq t u D σ H := h (u D) fun _ _ x => x
def azB (z : Str) : Bool := z.cps.toList.all fun c => decide (97 ≤ c) && decide (c ≤ 122)
def nameB (z : Str) : Bool := decide (1 ≤ z.length) && decide (z.length ≤ 8) && azB z
theorem lt1 (a b : Nat) : decide (([a] : List Nat) < [b]) = decide (a < b) := by
  by_cases h : a < b <;> simp [h, List.cons_lt_cons_iff]
theorem az_up (c : Nat) (h : 97 ≤ c) : (!decide (122 < c)) = (decide (97 ≤ c) && decide (c ≤ 122)) := by
  rw [decide_eq_true h, Bool.true_and]
  by_cases h2 : c ≤ 122
  · rw [decide_eq_true h2, decide_eq_false (by omega)]
    rfl
  · rw [decide_eq_false h2, decide_eq_true (by omega)]
    rfl
structure AskP (K : PySem.W.Frag) (vs : List V) (H : Hp) (Q : VK) (E : XK) : Prop where
  ex : ∃ v, vs = [v] ∧ ((∃ z, v = .str z ∧ z.length ≤ 1000000 ∧ ∀ H', Same H H' → Q (.bl (nameB z)) H') ∨ (∃ t, TyOf K H v t ∧ PySem.W.kitOne K t (.type "str") = some false ∧ Q (.bl false) H))
def sp_is_name (K : PySem.W.Frag) : Sp := fun vs H Q E => AskP K vs H Q E
theorem range_map_all (n : Nat) (f : Nat → Bool) : ((List.range n).map f).all id = (List.range n).all f := by
  simp [List.all_map]
theorem az_range (z : Str) : ((List.range z.cps.size).all fun i => decide (97 ≤ z.cps.getD i 0) && decide (z.cps.getD i 0 ≤ 122)) = azB z := by
  unfold azB
  rw [Bool.eq_iff_iff, List.all_eq_true, List.all_eq_true]
  constructor
  · intro h c hc
    obtain ⟨i, hi, rfl⟩ := List.getElem_of_mem hc
    have hi' : i < z.cps.size := by simpa using hi
    have := h i (List.mem_range.mpr hi')
    simpa [Array.getD, hi'] using this
  · intro h i hi
    have hi' := List.mem_range.mp hi
    have := h z.cps[i] (by simp)
    simpa [Array.getD, hi'] using this
section
variable {P : Program} {w : World} {K : PySem.W.Frag} {mg : Str → Option Value} {base : Heap} {k_HIGHEST_RANK k_LOWEST_RANK k_MOST_LEAVES k_MOST_LETTERS k_MOST_PARTS k_MOST_RANKS k_MOST_RULES k_MOST_SEATS : Tok}
theorem ok_is_name {f : Addr} {fd : FuncData} (F : Fun K "is_name" "is_name" s_is_name f fd) (T : Txt K mg k_HIGHEST_RANK k_LOWEST_RANK k_MOST_LEAVES k_MOST_LETTERS k_MOST_PARTS k_MOST_RANKS k_MOST_RULES k_MOST_SEATS) : FnOk P w K mg base CX0 1 f fd ["thing"] (sp_is_name K) := by
  refine F.ok sc_is_name (fun vs H Q E h => ?_) (fun cdv A outer s H vs Q E hr h => ?_)
  · obtain ⟨v, rfl, _⟩ := h.ex
    rfl
  · obtain ⟨v, rfl, g⟩ := h.ex
    clear h
    refine ⟨_, (pss_cons (ps_if (PW.pt (pw_or (pt_not (pt_val (pe_callB call_isinst rfl T.b_isinstance (by decide +kernel) (pa_cons (pv 0) (pa_cons (pe_bltn (v := .ty "str") rfl T.b_str (by decide +kernel) rfl) pa_nil))))) (pw_or1 (pt_not (pt_chain op_le op_le pe_int (pe_callB call_len rfl T.b_len (by decide +kernel) (pa_cons (pv 0) pa_nil)) (pe_glob (v := .int 8) rfl T.c_MOST_LETTERS ⟨_, rfl⟩)))))) (pss_one (ps_ret pe_bl)) pss_nil) (pss_one (ps_ret (pe_callB (call_all rfl) rfl T.b_all (by decide +kernel) (pa_cons (pe_lc (T := .one) (NT := (["sign"] : List Str)) (NF := ([] : List Str)) (js := []) (BlkC.ok (N0 := (["thing"] : List Str)) (osc := defScope s_is_name) (by decide +kernel) rfl rfl) (⟨_, ⟨_, rfl⟩, rfl⟩) rfl (pi_str (pv 0)) (fun b => ⟨pts_nil, (pe_chain op_le_str op_le_str pe_str (pv 0) pe_str)⟩)) pa_nil))))), ?_⟩
    rcases g with ⟨z, rfl, hz, q⟩ | ⟨t, ty, hk, q⟩
    · refine ⟨_, rfl, _, _, _, true, rfl, .str z, rfl, _, rfl, iteF ?_⟩
      refine ⟨_, rfl, _, _, rfl, ⟨le_line hz, rfl⟩, _, _, rfl, rfl, _, rfl, ?_⟩
      refine iteB (fun h1 => ?_) (fun h1 => ?_)
      · refine ⟨_, _, rfl, rfl, _, rfl, ?_⟩
        refine iteB (fun h2 => ?_) (fun h2 => ?_)
        · have e : nameB z = false := by
            unfold nameB
            simp at h2
            simp
            intro _ h3
            omega
          rw [← e]
          exact q H (Same.refl H)
        · refine ⟨_, rfl, z, rfl, fun D hD b => ?_⟩
          refine blk_map (fx_str z) (fun i => .bl (decide (97 ≤ z.cps.getD i 0) && decide (z.cps.getD i 0 ≤ 122))) (le_line hz) hD (fun _ _ => trivial) (fun i H2 hi s2 QY qy => ?_) (fun H2 s2 hd => ?_)
          · refine ⟨_, rfl, _, _, rfl, rfl, _, rfl, ?_⟩
            refine iteB (fun h3 => ?_) (fun h3 => ?_)
            · refine ⟨_, _, rfl, rfl, ?_⟩
              have := qy H2 (Same.refl _)
              have e3 : (!decide (([z.cps.getD i 0] : List Nat) < [97])) = true := h3
              rw [lt1] at e3
              have e4 : (!decide (([122] : List Nat) < [z.cps.getD i 0])) = (decide (97 ≤ z.cps.getD i 0) && decide (z.cps.getD i 0 ≤ 122)) := by
                rw [lt1]
                refine az_up _ ?_
                rw [Bool.not_eq_true'] at e3
                have := of_decide_eq_false e3
                omega
              show QY (.bl (!decide (([122] : List Nat) < [z.cps.getD i 0]))) H2
              rw [e4]
              exact this
            · have := qy H2 (Same.refl _)
              have e3 : (!decide (([z.cps.getD i 0] : List Nat) < [97])) = false := h3
              rw [lt1] at e3
              have e4 : (decide (97 ≤ z.cps.getD i 0) && decide (z.cps.getD i 0 ≤ 122)) = false := by
                simp at e3
                simp
                omega
              rw [e4] at this
              exact this
          · refine ⟨D, (List.range z.cps.size).map fun i => decide (97 ≤ z.cps.getD i 0) && decide (z.cps.getD i 0 ≤ 122), rfl, SqL.of (by rw [hd, List.map_map]; rfl), ?_⟩
            rw [range_map_all, az_range]
            have e : nameB z = azB z := by
              unfold nameB
              simp at h1 h2
              have a1 : decide (1 ≤ z.length) = true := decide_eq_true (by omega)
              have a2 : decide (z.length ≤ 8) = true := decide_eq_true (by omega)
              rw [a1, a2]
              rfl
            rw [← e]
            exact q H2 s2
      · have e : nameB z = false := by
          unfold nameB
          simp at h1
          simp
          intro h3
          omega
        refine ⟨_, rfl, iteT ?_⟩
        rw [← e]
        exact q H (Same.refl H)
    · exact ⟨_, rfl, _, _, _, false, rfl, ty, hk, _, rfl, iteT (iteT q)⟩
end
end K02

set_option maxHeartbeats 4000000
namespace K02
open PySem L2
/-! ### small questions, of any data -/
mutual
def okD : PyData → Bool
  | .str z => decide (z.length ≤ 100000)
  | .tuple ds => decide (ds.length ≤ 100000) && okDs ds
  | .list ds => decide (ds.length ≤ 100000) && okDs ds
  | .dict _ => false
  | _ => true
def okDs : List PyData → Bool
  | [] => true
  | d :: ds => okD d && okDs ds
end
theorem okDs_at : ∀ {ds : List PyData} {i : Nat}, okDs ds = true → i < ds.length → okD (ds.getD i .none) = true
  | [], _, _, hi => absurd hi (Nat.not_lt_zero _)
  | d :: ds, i, h, hi => by
    have h' : okD d = true ∧ okDs ds = true := by simpa [okDs] using h
    cases i with
    | zero => exact h'.1
    | succ i => exact (show okD (ds.getD i .none) = true from okDs_at h'.2 (by simpa using hi))
theorem okD_tup {ds : List PyData} (h : okD (.tuple ds) = true) : ds.length ≤ 100000 ∧ okDs ds = true := by simpa [okD] using h
structure A1 (g : PyData → Bool) (vs : List V) (H : Hp) (Q : VK) : Prop where
  ex : ∃ v d, vs = [v] ∧ RX H d v ∧ okD d = true ∧ ∀ H', Same H H' → Q (.bl (g d)) H'
structure A2 (g : PyData → PyData → Bool) (vs : List V) (H : Hp) (Q : VK) : Prop where
  ex : ∃ v u d e, vs = [v, u] ∧ RX H d v ∧ RX H e u ∧ okD d = true ∧ okD e = true ∧ ∀ H', Same H H' → Q (.bl (g d e)) H'
structure AM (g : Int → PyData → Bool) (vs : List V) (H : Hp) (Q : VK) : Prop where
  ex : ∃ v d n, vs = [v, .int n] ∧ RX H d v ∧ okD d = true ∧ ∀ H', Same H H' → Q (.bl (g n d)) H'
structure AMM (g : Int → Int → PyData → Bool) (vs : List V) (H : Hp) (Q : VK) : Prop where
  ex : ∃ v d n m, vs = [v, .int n, .int m] ∧ RX H d v ∧ okD d = true ∧ ∀ H', Same H H' → Q (.bl (g n m d)) H'
/-- of a thing and the parts' names -/
structure AN (p : PyData → Prop) (g : List Str → PyData → Bool) (vs : List V) (H : Hp) (Q : VK) : Prop where
  ex : ∃ v d l zs, vs = [v, .ref l] ∧ RX H d v ∧ okD d = true ∧ H l = some (.lst (zs.map V.str)) ∧ p d ∧ ∀ H', Same H H' → Q (.bl (g zs d)) H'
def sp1 (g : PyData → Bool) : Sp := fun vs H Q _ => A1 g vs H Q
def sp2 (g : PyData → PyData → Bool) : Sp := fun vs H Q _ => A2 g vs H Q
def spM (g : Int → PyData → Bool) : Sp := fun vs H Q _ => AM g vs H Q
def spMM (g : Int → Int → PyData → Bool) : Sp := fun vs H Q _ => AMM g vs H Q
def spN (p : PyData → Prop) (g : List Str → PyData → Bool) : Sp := fun vs H Q _ => AN p g vs H Q
def natD : PyData → Bool
  | .int i => decide (0 ≤ i)
  | _ => false
def rkD : PyData → Bool
  | .int i => decide (1 ≤ i) && decide (i ≤ 9)
  | _ => false
def leD : PyData → PyData → Bool
  | .int i, .int j => decide (i ≤ j)
  | _, _ => false
def daysD (a b : PyData) : Bool := natD a && natD b && leD a b
def nameD : PyData → Bool
  | .str z => nameB z
  | _ => false
def tupN (n : Int) : PyData → Bool
  | .tuple ds => decide ((ds.length : Int) = n)
  | _ => false
def tupsN (n m : Int) : PyData → Bool
  | .tuple ds => !decide (m < (ds.length : Int)) && ds.all (tupN n)
  | _ => false
theorem isInt_of {d : PyData} (h : isInt d = true) : ∃ i, d = .int i := by
  cases d <;> first | exact ⟨_, rfl⟩ | cases h
theorem isTup_of {d : PyData} (h : isTup d = true) : ∃ ds, d = .tuple ds := by
  cases d <;> first | exact ⟨_, rfl⟩ | cases h
theorem natD_int {d : PyData} (h : natD d = true) : isInt d = true := by
  cases d <;> first | rfl | cases h
theorem range_all {α : Type} (l : List α) (x : α) (f : α → Bool) : ((List.range l.length).map fun i => f (l.getD i x)).all id = l.all f := by
  rw [List.all_map, Bool.eq_iff_iff, List.all_eq_true, List.all_eq_true]
  constructor
  · intro h a ha
    obtain ⟨i, hi, rfl⟩ := List.getElem_of_mem ha
    have := h i (List.mem_range.mpr hi)
    simpa [List.getD, hi] using this
  · intro h i hi
    have hi' := List.mem_range.mp hi
    simpa [List.getD, hi'] using h _ (List.getElem_mem hi')
section
variable {P : Program} {w : World} {K : PySem.W.Frag} {mg : Str → Option Value} {base : Heap} {k_HIGHEST_RANK k_LOWEST_RANK k_MOST_LEAVES k_MOST_LETTERS k_MOST_PARTS k_MOST_RANKS k_MOST_RULES k_MOST_SEATS : Tok}
theorem ok_is_name' {f : Addr} {fd : FuncData} (F : Fun K "is_name" "is_name" s_is_name f fd) (T : Txt K mg k_HIGHEST_RANK k_LOWEST_RANK k_MOST_LEAVES k_MOST_LETTERS k_MOST_PARTS k_MOST_RANKS k_MOST_RULES k_MOST_SEATS) : FnOk P w K mg base CX0 1 f fd ["thing"] (sp1 nameD) := by
  refine (ok_is_name F T).imp fun vs H Q E h => ?_
  obtain ⟨v, d, rfl, hd, ok, q⟩ := A1.ex h
  refine ⟨v, rfl, ?_⟩
  cases d with
  | str z =>
    cases (show v = .str z from hd)
    have hz : z.length ≤ 100000 := by simpa [okD] using ok
    exact .inl ⟨z, rfl, by omega, q⟩
  | _ => exact .inr ⟨_, hd.ty, kit_str hd, q H (Same.refl H)⟩
theorem ok_is_number {f : Addr} {fd : FuncData} (F : Fun K "is_number" "is_number" s_is_number f fd) (T : Txt K mg k_HIGHEST_RANK k_LOWEST_RANK k_MOST_LEAVES k_MOST_LETTERS k_MOST_PARTS k_MOST_RANKS k_MOST_RULES k_MOST_SEATS) : FnOk P w K mg base CX0 1 f fd ["thing"] (sp1 isInt) := by
  refine F.ok sc_is_number (fun vs H Q E h => ?_) (fun cdv A outer s H vs Q E hr h => ?_)
  · obtain ⟨v, d, rfl, _⟩ := A1.ex h
    rfl
  · obtain ⟨v, d, rfl, hd, ok, q⟩ := A1.ex h
    clear h
    refine ⟨_, (pss_one (ps_ret (pe_and (pe_callB call_isinst rfl T.b_isinstance (by decide +kernel) (pa_cons (pv 0) (pa_cons (pe_bltn (v := .ty "int") rfl T.b_int (by decide +kernel) rfl) pa_nil))) (pe_one (pe_not (pe_callB call_isinst rfl T.b_isinstance (by decide +kernel) (pa_cons (pv 0) (pa_cons (pe_bltn (v := .ty "bool") rfl T.b_bool (by decide +kernel) rfl) pa_nil)))))))), ?_⟩
    refine ⟨_, rfl, _, _, _, _, rfl, hd.ty, kit_int hd, _, rfl, ?_⟩
    have q' := q H (Same.refl H)
    refine iteB (fun h => ?_) (fun h => ?_)
    · refine ⟨_, rfl, _, _, _, _, rfl, hd.ty, kit_bool hd, _, rfl, ?_⟩
      have e : (!isBoolD d) = isInt d := by cases d <;> first | rfl | cases h
      rw [e]
      exact q'
    · have e : isInt d = false := by cases d <;> first | rfl | cases h
      rw [e] at q'
      exact q'
theorem ok_is_from_nought {f : Addr} {fd : FuncData} (F : Fun K "is_from_nought" "is_from_nought" s_is_from_nought f fd) (T : Txt K mg k_HIGHEST_RANK k_LOWEST_RANK k_MOST_LEAVES k_MOST_LETTERS k_MOST_PARTS k_MOST_RANKS k_MOST_RULES k_MOST_SEATS) (h_is_number : Has P w K mg base "is_number" 1 ["thing"] (sp1 isInt)) : FnOk P w K mg base CX0 2 f fd ["thing"] (sp1 natD) := by
  refine F.ok sc_is_from_nought (fun vs H Q E h => ?_) (fun cdv A outer s H vs Q E hr h => ?_)
  · obtain ⟨v, d, rfl, _⟩ := A1.ex h
    rfl
  · obtain ⟨v, d, rfl, hd, ok, q⟩ := A1.ex h
    clear h
    refine ⟨_, (pss_one (ps_ret (pe_and (pe_fn h_is_number (hr.mono (by decide)) rfl (pa_cons (pv 0) pa_nil)) (pe_one (pe_cmpR op_ge (pv 0) pe_int (nomark _)))))), ?_⟩
    refine ⟨_, rfl, v, d, rfl, hd, ok, fun H1 s1 => ⟨_, rfl, ?_⟩⟩
    have q' := q H1 s1
    refine iteB (fun h => ?_) (fun h => ?_)
    · obtain ⟨i, rfl⟩ := isInt_of h
      cases (show v = .int i from hd)
      exact ⟨_, rfl, _, _, rfl, rfl, q'⟩
    · have e : natD d = false := by cases d <;> first | rfl | cases h
      rw [e] at q'
      exact q'
theorem ok_is_rank {f : Addr} {fd : FuncData} (F : Fun K "is_rank" "is_rank" s_is_rank f fd) (T : Txt K mg k_HIGHEST_RANK k_LOWEST_RANK k_MOST_LEAVES k_MOST_LETTERS k_MOST_PARTS k_MOST_RANKS k_MOST_RULES k_MOST_SEATS) (h_is_number : Has P w K mg base "is_number" 1 ["thing"] (sp1 isInt)) : FnOk P w K mg base CX0 2 f fd ["thing"] (sp1 rkD) := by
  refine F.ok sc_is_rank (fun vs H Q E h => ?_) (fun cdv A outer s H vs Q E hr h => ?_)
  · obtain ⟨v, d, rfl, _⟩ := A1.ex h
    rfl
  · obtain ⟨v, d, rfl, hd, ok, q⟩ := A1.ex h
    clear h
    refine ⟨_, (pss_one (ps_ret (pe_and (pe_fn h_is_number (hr.mono (by decide)) rfl (pa_cons (pv 0) pa_nil)) (pe_one (pe_chain op_le op_le (pe_glob (v := .int 1) rfl T.c_LOWEST_RANK ⟨_, rfl⟩) (pv 0) (pe_glob (v := .int 9) rfl T.c_HIGHEST_RANK ⟨_, rfl⟩)))))), ?_⟩
    refine ⟨_, rfl, v, d, rfl, hd, ok, fun H1 s1 => ⟨_, rfl, ?_⟩⟩
    have q' := q H1 s1
    refine iteB (fun h => ?_) (fun h => ?_)
    · obtain ⟨i, rfl⟩ := isInt_of h
      cases (show v = .int i from hd)
      have q2 : Q (.bl (decide (1 ≤ i) && decide (i ≤ 9))) H1 := q'
      refine ⟨_, rfl, _, _, rfl, rfl, _, rfl, iteB (fun h1 => ?_) (fun h1 => ?_)⟩
      · refine ⟨_, _, rfl, rfl, ?_⟩
        have e : decide (1 ≤ i) = true := h1
        rw [e, Bool.true_and] at q2
        exact q2
      · have e : decide (1 ≤ i) = false := h1
        rw [e, Bool.false_and] at q2
        exact q2
    · have e : rkD d = false := by cases d <;> first | rfl | cases h
      rw [e] at q'
      exact q'
theorem ok_are_days {f : Addr} {fd : FuncData} (F : Fun K "are_days" "are_days" s_are_days f fd) (T : Txt K mg k_HIGHEST_RANK k_LOWEST_RANK k_MOST_LEAVES k_MOST_LETTERS k_MOST_PARTS k_MOST_RANKS k_MOST_RULES k_MOST_SEATS) (h_is_from_nought : Has P w K mg base "is_from_nought" 2 ["thing"] (sp1 natD)) : FnOk P w K mg base CX0 3 f fd ["first", "last"] (sp2 daysD) := by
  refine F.ok sc_are_days (fun vs H Q E h => ?_) (fun cdv A outer s H vs Q E hr h => ?_)
  · obtain ⟨v, u, d, e, rfl, _⟩ := A2.ex h
    rfl
  · obtain ⟨v, u, d, e, rfl, hd, he, ok, ok', q⟩ := A2.ex h
    clear h
    refine ⟨_, (pss_one (ps_ret (pe_and (pe_fn h_is_from_nought (hr.mono (by decide)) rfl (pa_cons (pv 0) pa_nil)) (pe_and (pe_fn h_is_from_nought (hr.mono (by decide)) rfl (pa_cons (pv 1) pa_nil)) (pe_one (pe_cmpR op_le (pv 0) (pv 1) (nomark _))))))), ?_⟩
    refine ⟨_, rfl, v, d, rfl, hd, ok, fun H1 s1 => ⟨_, rfl, ?_⟩⟩
    refine iteB (fun h1 => ?_) (fun h1 => ?_)
    · refine ⟨_, rfl, u, e, rfl, he.same s1, ok', fun H2 s2 => ⟨_, rfl, ?_⟩⟩
      have q' := q H2 (s1.trans s2)
      unfold daysD at q'
      rw [h1, Bool.true_and] at q'
      refine iteB (fun h2 => ?_) (fun h2 => ?_)
      · obtain ⟨i, rfl⟩ := isInt_of (natD_int h1)
        obtain ⟨j, rfl⟩ := isInt_of (natD_int h2)
        cases (show v = .int i from hd)
        cases (show u = .int j from he)
        rw [h2, Bool.true_and] at q'
        exact ⟨_, rfl, _, rfl, _, _, rfl, rfl, q'⟩
      · rw [h2, Bool.false_and] at q'
        exact q'
    · have q' := q H1 s1
      unfold daysD at q'
      rw [h1, Bool.false_and, Bool.false_and] at q'
      exact q'
theorem ok_is_tuple_of {f : Addr} {fd : FuncData} (F : Fun K "is_tuple_of" "is_tuple_of" s_is_tuple_of f fd) (T : Txt K mg k_HIGHEST_RANK k_LOWEST_RANK k_MOST_LEAVES k_MOST_LETTERS k_MOST_PARTS k_MOST_RANKS k_MOST_RULES k_MOST_SEATS) : FnOk P w K mg base CX0 1 f fd ["thing", "many"] (spM tupN) := by
  refine F.ok sc_is_tuple_of (fun vs H Q E h => ?_) (fun cdv A outer s H vs Q E hr h => ?_)
  · obtain ⟨v, d, n, rfl, _⟩ := AM.ex h
    rfl
  · obtain ⟨v, d, n, rfl, hd, ok, q⟩ := AM.ex h
    clear h
    refine ⟨_, (pss_one (ps_ret (pe_and (pe_callB call_isinst rfl T.b_isinstance (by decide +kernel) (pa_cons (pv 0) (pa_cons (pe_bltn (v := .ty "tuple") rfl T.b_tuple (by decide +kernel) rfl) pa_nil))) (pe_one (pe_cmpR op_eq (pe_callB call_len rfl T.b_len (by decide +kernel) (pa_cons (pv 0) pa_nil)) (pv 1) (nomark _)))))), ?_⟩
    refine ⟨_, rfl, _, _, _, _, rfl, hd.ty, kit_tup hd, _, rfl, ?_⟩
    have q' := q H (Same.refl H)
    refine iteB (fun h => ?_) (fun h => ?_)
    · obtain ⟨ds, rfl⟩ := isTup_of h
      obtain ⟨a, us, rfl, ha, rx⟩ := hd
      refine ⟨_, rfl, _, _, rfl, .inr ⟨_, SqT.of ha, rfl⟩, _, rfl, rfl, ?_⟩
      have e : decide (V.int (us.length : Int) = V.int n) = decide ((ds.length : Int) = n) := by
        rw [rxs_len rx]
        simp
      rw [e]
      exact q'
    · have e : tupN n d = false := by cases d <;> first | rfl | cases h
      rw [e] at q'
      exact q'
theorem ok_are_tuples_of {f : Addr} {fd : FuncData} (F : Fun K "are_tuples_of" "are_tuples_of" s_are_tuples_of f fd) (T : Txt K mg k_HIGHEST_RANK k_LOWEST_RANK k_MOST_LEAVES k_MOST_LETTERS k_MOST_PARTS k_MOST_RANKS k_MOST_RULES k_MOST_SEATS) (h_is_tuple_of : Has P w K mg base "is_tuple_of" 1 ["thing", "many"] (spM tupN)) : FnOk P w K mg base CX0 2 f fd ["thing", "many", "most"] (spMM tupsN) := by
  refine F.ok sc_are_tuples_of (fun vs H Q E h => ?_) (fun cdv A outer s H vs Q E hr h => ?_)
  · obtain ⟨v, d, n, m, rfl, _⟩ := AMM.ex h
    rfl
  · obtain ⟨v, d, n, m, rfl, hd, ok, q⟩ := AMM.ex h
    clear h
    refine ⟨_, (pss_cons (ps_if (PW.pt (pw_or (pt_not (pt_val (pe_callB call_isinst rfl T.b_isinstance (by decide +kernel) (pa_cons (pv 0) (pa_cons (pe_bltn (v := .ty "tuple") rfl T.b_tuple (by decide +kernel) rfl) pa_nil))))) (pw_or1 (pt_cmpR op_gt (pe_callB call_len rfl T.b_len (by decide +kernel) (pa_cons (pv 0) pa_nil)) (pv 2) (nomark _))))) (pss_one (ps_ret pe_bl)) pss_nil) (pss_one (ps_ret (pe_callB (call_all rfl) rfl T.b_all (by decide +kernel) (pa_cons (pe_lc (T := .one) (NT := (["row"] : List Str)) (NF := (["many"] : List Str)) (js := [1]) (BlkC.ok (N0 := (["thing", "many", "most"] : List Str)) (osc := defScope s_are_tuples_of) (by decide +kernel) rfl rfl) (⟨_, ⟨_, rfl⟩, rfl⟩) rfl (pi_tup (pv 0)) (fun b => ⟨pts_nil, (pe_fn h_is_tuple_of (hr.mono (by decide)) rfl (pa_cons (pv 0) (pa_cons (pv 1) pa_nil)))⟩)) pa_nil))))), ?_⟩
    refine ⟨_, rfl, _, _, _, _, rfl, hd.ty, kit_tup hd, _, rfl, ?_⟩
    refine iteB (fun h => ?_) (fun h => ?_)
    · have ht : isTup d = false := by simpa using h
      have q' := q H (Same.refl H)
      have e : tupsN n m d = false := by cases d <;> first | rfl | cases ht
      rw [e] at q'
      exact iteT q'
    · have ht : isTup d = true := by simpa using h
      obtain ⟨ds, rfl⟩ := isTup_of ht
      obtain ⟨a, us, rfl, ha, rx⟩ := hd
      obtain ⟨dl, dok⟩ := okD_tup ok
      have ul := rxs_len rx
      refine ⟨_, rfl, _, _, rfl, .inr ⟨_, SqT.of ha, rfl⟩, _, rfl, _, _, rfl, rfl, _, rfl, ?_⟩
      refine iteB (fun h2 => ?_) (fun h2 => ?_)
      · have q' := q H (Same.refl H)
        have e : tupsN n m (.tuple ds) = false := by
          have : decide (m < (ds.length : Int)) = true := by rw [← ul]; exact h2
          show (!decide (m < (ds.length : Int)) && ds.all (tupN n)) = _
          rw [this]
          rfl
        rw [e] at q'
        exact q'
      · refine ⟨_, rfl, a, rfl, ⟨_, SqT.of ha⟩, fun D hD bk => ?_⟩
        refine blk_map (fx_tup a us) (fun i => .bl (tupN n (ds.getD i .none))) (by rw [ul, sizeLine_eq]; omega) hD (fun H1 s1 => SqT.of (s1 _ _ ha)) (fun i H1 hi s1 QY qy => ?_) (fun H1 s1 d1 => ?_)
        · have hi' : i < ds.length := by omega
          exact ⟨_, rfl, _, rfl, _, ds.getD i .none, n, rfl, (rxs_at rx hi').same s1, okDs_at dok hi', qy⟩
        · refine ⟨D, (List.range ds.length).map fun i => tupN n (ds.getD i .none), rfl, SqL.of (by rw [d1, List.map_map, ul]; rfl), ?_⟩
          rw [range_all]
          have q' := q H1 s1
          have e : tupsN n m (.tuple ds) = ds.all (tupN n) := by
            have : decide (m < (ds.length : Int)) = false := by rw [← ul]; exact h2
            show (!decide (m < (ds.length : Int)) && ds.all (tupN n)) = _
            rw [this]
            rfl
          rw [e] at q'
          exact q'
end
end K02

set_option maxHeartbeats 4000000
namespace K02
open PySem L2
/-! ### rising; rows -/
def adj {α : Type} (f : α → α → Bool) : List α → Bool
  | a :: b :: r => f a b && adj f (b :: r)
  | _ => true
theorem adj_range {α : Type} (f : α → α → Bool) (x : α) : ∀ l : List α, ((List.range (min l.length (l.drop 1).length)).map fun i => f (l.getD i x) ((l.drop 1).getD i x)).all id = adj f l
  | [] => rfl
  | [a] => rfl
  | a :: b :: r => by
    have ih := adj_range f x (b :: r)
    have e : min (a :: b :: r).length ((a :: b :: r).drop 1).length = min (b :: r).length ((b :: r).drop 1).length + 1 := by simp
    rw [e, List.range_succ_eq_map, List.map_cons, List.all_cons, List.map_map]
    show (f a b && _) = (f a b && adj f (b :: r))
    rw [← ih]
    rfl
structure RisP (vs : List V) (H : Hp) (Q : VK) : Prop where
  ex : ∃ l, vs = [.ref l] ∧ ((∃ (ks : List Key) (b : Bool), H l = some (.lst (ks.map kV)) ∧ (∀ k ∈ ks, kTy k = b) ∧ ks.length ≤ 1000 ∧ ∀ H', Same H H' → Q (.bl (adj kLt ks)) H') ∨
    ∃ (rs : List Row) (sh : List Bool), H l = some (.lst (rs.map fun r => V.ref r.1)) ∧ (∀ r ∈ rs, H r.1 = some (.tup (r.2.map kV)) ∧ r.2.map kTy = sh) ∧ rs.length ≤ 1000 ∧ ∀ H', Same H H' → Q (.bl (adj ksLt (rs.map (·.2)))) H')
def sp_ris : Sp := fun vs H Q _ => RisP vs H Q
theorem cut1 (xs : List V) : cutV xs (some 1) none = xs.drop 1 := by
  cases xs with
  | nil => rfl
  | cons x r =>
    unfold cutV
    have e1 : HT.sIx (x :: r).length 0 (some 1) = 1 := by
      unfold HT.sIx
      simp
    have e2 : HT.sIx (x :: r).length (x :: r).length none = (x :: r).length := rfl
    rw [e1, e2]
    simp
section
variable {P : Program} {w : World} {K : PySem.W.Frag} {mg : Str → Option Value} {base : Heap} {k_HIGHEST_RANK k_LOWEST_RANK k_MOST_LEAVES k_MOST_LETTERS k_MOST_PARTS k_MOST_RANKS k_MOST_RULES k_MOST_SEATS : Tok}
theorem ok_is_rising {f : Addr} {fd : FuncData} (F : Fun K "is_rising" "is_rising" s_is_rising f fd) (T : Txt K mg k_HIGHEST_RANK k_LOWEST_RANK k_MOST_LEAVES k_MOST_LETTERS k_MOST_PARTS k_MOST_RANKS k_MOST_RULES k_MOST_SEATS) : FnOk P w K mg base CX0 1 f fd ["keys"] sp_ris := by
  refine F.ok sc_is_rising (fun vs H Q E h => ?_) (fun cdv A outer s H vs Q E hr h => ?_)
  · obtain ⟨l, rfl, _⟩ := RisP.ex h
    rfl
  · obtain ⟨l, rfl, g⟩ := RisP.ex h
    clear h
    refine ⟨_, (pss_one (ps_ret (pe_callB (call_all rfl) rfl T.b_all (by decide +kernel) (pa_cons (pe_lc (T := (.many 2)) (NT := (["low", "high"] : List Str)) (NF := ([] : List Str)) (js := []) (BlkC.ok (N0 := (["keys"] : List Str)) (osc := defScope s_is_rising) (by decide +kernel) rfl rfl) (⟨_, _, _, rfl, (.cons ⟨_, rfl⟩ (.cons ⟨_, rfl⟩ .nil)), rfl⟩) rfl (pi_zip rfl T.b_zip (pa_cons (pv 0) (pa_cons (pe_slice sl_list (pv 0) (po_some pe_int) po_none) pa_nil))) (fun b => ⟨pts_nil, (pe_cmpR (op_lt_keys hr.units0) (pv 0) (pv 1) (nomark _))⟩)) pa_nil)))), ?_⟩
    rcases g with ⟨ks, b, hl, hb, kl, q⟩ | ⟨rs, sh, hl, hb, kl, q⟩
    · refine ⟨_, rfl, _, rfl, _, rfl, l, _, rfl, SqL.of hl, fun l2 hl2 => ?_⟩
      rw [cut1]
      have c2 := Same.upd (o := .lst ((ks.map kV).drop 1)) hl2
      refine ⟨l, l2, _, _, rfl, SqL.of (c2 _ _ hl), SqL.of upd_same, fun D hD bk => ?_⟩
      have ed : (ks.map kV).drop 1 = (ks.drop 1).map kV := by rw [List.map_drop]
      have h2 : (upd H l2 (.lst ((ks.map kV).drop 1))) l2 = some (.lst ((ks.drop 1).map kV)) := by rw [upd_same, ed]
      refine blk_mapY (fy_zip l l2 (ks.map kV) ((ks.map kV).drop 1)) (fun i => .bl (kLt (ks.getD i (.inl 0)) ((ks.drop 1).getD i (.inl 0)))) (by rw [sizeLine_eq, List.length_map]; omega) hD (fun H1 s1 => ⟨SqL.of (s1 _ _ (c2 _ _ hl)), SqL.of (s1 _ _ upd_same)⟩) (fun i H1 hi s1 QY qy => ?_) (fun H1 s1 d1 => ?_)
      · rw [ed, List.length_map, List.length_map] at hi
        have i1 : i < ks.length := by omega
        have i2 : i < (ks.drop 1).length := by omega
        have e1 : (ks.map kV).getD i .non = kV (ks.getD i (.inl 0)) := by simp [List.getD, i1]
        have e2 : ((ks.map kV).drop 1).getD i .non = kV ((ks.drop 1).getD i (.inl 0)) := by
          rw [ed, List.getD_eq_getElem?_getD, List.getD_eq_getElem?_getD, List.getElem?_map, List.getElem?_eq_getElem i2]
          rfl
        have m1 : ks.getD i (.inl 0) ∈ ks := by
          have : ks.getD i (.inl 0) = ks[i] := by simp [List.getD, i1]
          rw [this]
          exact List.getElem_mem i1
        have m2 : (ks.drop 1).getD i (.inl 0) ∈ ks := by
          rw [List.getD_eq_getElem?_getD, List.getElem?_eq_getElem i2]
          exact List.mem_of_mem_drop (List.getElem_mem i2)
        exact ⟨_, rfl, _, rfl, .inl ⟨_, _, e1, e2, (hb _ m1).trans (hb _ m2).symm, qy H1 (Same.refl _)⟩⟩
      · refine ⟨D, (List.range (min ks.length (ks.drop 1).length)).map fun i => kLt (ks.getD i (.inl 0)) ((ks.drop 1).getD i (.inl 0)), rfl, SqL.of (by rw [d1, List.map_map, ed, List.length_map, List.length_map]; rfl), ?_⟩
        rw [adj_range]
        exact q H1 (c2.trans s1)
    · refine ⟨_, rfl, _, rfl, _, rfl, l, _, rfl, SqL.of hl, fun l2 hl2 => ?_⟩
      rw [cut1]
      have c2 := Same.upd (o := .lst ((rs.map fun r => V.ref r.1).drop 1)) hl2
      refine ⟨l, l2, _, _, rfl, SqL.of (c2 _ _ hl), SqL.of upd_same, fun D hD bk => ?_⟩
      have ed : (rs.map fun r => V.ref r.1).drop 1 = (rs.drop 1).map fun r => V.ref r.1 := by rw [List.map_drop]
      refine blk_mapY (fy_zip l l2 (rs.map fun r => V.ref r.1) ((rs.map fun r => V.ref r.1).drop 1)) (fun i => .bl (ksLt ((rs.map (·.2)).getD i []) (((rs.map (·.2)).drop 1).getD i []))) (by rw [sizeLine_eq, List.length_map]; omega) hD (fun H1 s1 => ⟨SqL.of (s1 _ _ (c2 _ _ hl)), SqL.of (s1 _ _ upd_same)⟩) (fun i H1 hi s1 QY qy => ?_) (fun H1 s1 d1 => ?_)
      · rw [ed, List.length_map, List.length_map] at hi
        have i1 : i < rs.length := by omega
        have i2 : i < (rs.drop 1).length := by omega
        have e1 : (rs.map fun r => V.ref r.1).getD i .non = .ref rs[i].1 := by simp [List.getD, i1]
        have e2 : ((rs.map fun r => V.ref r.1).drop 1).getD i .non = .ref ((rs.drop 1)[i]).1 := by
          rw [ed, List.getD_eq_getElem?_getD, List.getElem?_map, List.getElem?_eq_getElem i2]
          rfl
        have e3 : (rs.map (·.2)).getD i [] = rs[i].2 := by simp [List.getD, i1]
        have e4 : ((rs.map (·.2)).drop 1).getD i [] = ((rs.drop 1)[i]).2 := by
          rw [← List.map_drop, List.getD_eq_getElem?_getD, List.getElem?_map, List.getElem?_eq_getElem i2]
          rfl
        have m1 := hb rs[i] (List.getElem_mem i1)
        have m2 := hb (rs.drop 1)[i] (List.mem_of_mem_drop (List.getElem_mem i2))
        have qy' := qy H1 (Same.refl _)
        rw [e3, e4] at qy'
        exact ⟨_, rfl, _, rfl, .inr ⟨_, _, _, _, e1, e2, s1 _ _ (c2 _ _ m1.1), s1 _ _ (c2 _ _ m2.1), m1.2.trans m2.2.symm, qy'⟩⟩
      · refine ⟨D, (List.range (min (rs.map (·.2)).length ((rs.map (·.2)).drop 1).length)).map fun i => ksLt ((rs.map (·.2)).getD i []) (((rs.map (·.2)).drop 1).getD i []), rfl, SqL.of ?_, ?_⟩
        · rw [d1, List.map_map, ed, List.length_map, List.length_map, List.length_map, ← List.map_drop, List.length_map]
          rfl
        · rw [adj_range]
          exact q H1 (c2.trans s1)
end
end K02

set_option maxHeartbeats 4000000
namespace K02
open PySem L2
/-! ### a row of ranks, of leaves, of rules -/
def tItems : PyData → List PyData
  | .tuple ds => ds
  | _ => []
def rankRowD (zs : List Str) : PyData → Bool
  | .tuple [a, b, c, e, f, g] => natD a && nameD b && rkD c && (inStrs zs e && daysD f g)
  | _ => false
def eqName : PyData → PyData → Bool
  | .str x, .str y => decide (x = y)
  | _, _ => false
def leaveRowD (zs : List Str) : PyData → Bool
  | .tuple [a, b, c, e, f, g, m] => natD a && natD m && (nameD b && nameD c && !eqName b c) && (inStrs zs e && daysD f g)
  | _ => false
def seatRowD (zs : List Str) : PyData → Bool
  | .tuple [r, w] => rkD r && (eqStr (Str.ofString "") w || inStrs zs w)
  | _ => false
def ruleRowD (zs : List Str) : PyData → Bool
  | .tuple [p, b, s] => inStrs zs p && natD b && tupsN 2 6 s && (tItems s).all (seatRowD zs)
  | _ => false
theorem tup6 {d : PyData} (h : tupN 6 d = true) : ∃ a b c e f g, d = .tuple [a, b, c, e, f, g] := by
  cases d with
  | tuple ds =>
    have hl : ds.length = 6 := by have := of_decide_eq_true h; omega
    match ds, hl with
    | [a, b, c, e, f, g], _ => exact ⟨a, b, c, e, f, g, rfl⟩
  | _ => cases h
theorem tup7 {d : PyData} (h : tupN 7 d = true) : ∃ a b c e f g m, d = .tuple [a, b, c, e, f, g, m] := by
  cases d with
  | tuple ds =>
    have hl : ds.length = 7 := by have := of_decide_eq_true h; omega
    match ds, hl with
    | [a, b, c, e, f, g, m], _ => exact ⟨a, b, c, e, f, g, m, rfl⟩
  | _ => cases h
theorem tup3 {d : PyData} (h : tupN 3 d = true) : ∃ a b c, d = .tuple [a, b, c] := by
  cases d with
  | tuple ds =>
    have hl : ds.length = 3 := by have := of_decide_eq_true h; omega
    match ds, hl with
    | [a, b, c], _ => exact ⟨a, b, c, rfl⟩
  | _ => cases h
theorem tup2 {d : PyData} (h : tupN 2 d = true) : ∃ a b, d = .tuple [a, b] := by
  cases d with
  | tuple ds =>
    have hl : ds.length = 2 := by have := of_decide_eq_true h; omega
    match ds, hl with
    | [a, b], _ => exact ⟨a, b, rfl⟩
  | _ => cases h
theorem name_str {d : PyData} (h : nameD d = true) : ∃ z, d = .str z := by
  cases d <;> first | exact ⟨_, rfl⟩ | cases h
/-- rows of tuples, each by what it holds -/
theorem rxs_rows {H : Hp} {n : Nat} : ∀ {ds : List PyData} {us : List V}, RXs H ds us → ds.all (tupN n) = true → ∃ (rows : List Addr) (vs : Nat → List V), us = rows.map V.ref ∧ rows.length = ds.length ∧ (∀ i, i < rows.length → (vs i).length = n) ∧ (∀ i c, rows[i]? = some c → H c = some (.tup (vs i))) ∧ ∀ i, i < ds.length → RXs H (tItems (ds.getD i .none)) (vs i)
  | [], _, h, _ => by
    cases (show _ = [] from h)
    exact ⟨[], fun _ => [], rfl, rfl, fun i hi => absurd hi (Nat.not_lt_zero _), fun i c e => by simp at e, fun i hi => absurd hi (Nat.not_lt_zero _)⟩
  | d :: ds, us, h, ha => by
    obtain ⟨v, r, e, hd, hs⟩ := h
    subst e
    have ha' : tupN n d = true ∧ ds.all (tupN n) = true := by simpa using ha
    obtain ⟨rows, vs, e1, e2, e3, e4, e5⟩ := rxs_rows hs ha'.2
    cases d with
    | tuple es =>
      obtain ⟨a, xs, rfl, hx, rx⟩ := hd
      subst e1
      have hl : xs.length = n := by
        rw [rxs_len rx]
        have := of_decide_eq_true ha'.1
        omega
      refine ⟨a :: rows, fun i => match i with | 0 => xs | i + 1 => vs i, rfl, by simp [e2], fun i hi => ?_, fun i c e => ?_, fun i hi => ?_⟩
      · cases i with
        | zero => exact hl
        | succ i => exact e3 i (by simpa using hi)
      · cases i with
        | zero => cases e; exact hx
        | succ i => exact e4 i c (by simpa using e)
      · cases i with
        | zero => exact rx
        | succ i => exact (show RXs H (tItems (ds.getD i .none)) (vs i) from e5 i (by simpa using hi))
    | _ => cases ha'.1
section
variable {P : Program} {w : World} {K : PySem.W.Frag} {mg : Str → Option Value} {base : Heap} {k_HIGHEST_RANK k_LOWEST_RANK k_MOST_LEAVES k_MOST_LETTERS k_MOST_PARTS k_MOST_RANKS k_MOST_RULES k_MOST_SEATS : Tok}
theorem ok_is_rank_row {f : Addr} {fd : FuncData} (F : Fun K "is_rank_row" "is_rank_row" s_is_rank_row f fd) (T : Txt K mg k_HIGHEST_RANK k_LOWEST_RANK k_MOST_LEAVES k_MOST_LETTERS k_MOST_PARTS k_MOST_RANKS k_MOST_RULES k_MOST_SEATS) (h_is_name : Has P w K mg base "is_name" 1 ["thing"] (sp1 nameD)) (h_is_from_nought : Has P w K mg base "is_from_nought" 2 ["thing"] (sp1 natD)) (h_is_rank : Has P w K mg base "is_rank" 2 ["thing"] (sp1 rkD)) (h_are_days : Has P w K mg base "are_days" 3 ["first", "last"] (sp2 daysD)) :
    FnOk P w K mg base CX0 4 f fd ["row", "names"] (spN (fun d => tupN 6 d = true) rankRowD) := by
  refine F.ok sc_is_rank_row (fun vs H Q E h => ?_) (fun cdv A outer s H vs Q E hr h => ?_)
  · obtain ⟨v, d, l, zs, rfl, _⟩ := AN.ex h
    rfl
  · obtain ⟨v, d, l, zs, rfl, hd, ok, hl, hp, q⟩ := AN.ex h
    clear h
    obtain ⟨a, b, c, e, g, k, rfl⟩ := tup6 hp
    obtain ⟨t, us, rfl, ht, v1, r1, rfl, x1, v2, r2, rfl, x2, v3, r3, rfl, x3, v4, r4, rfl, x4, v5, r5, rfl, x5, v6, r6, rfl, x6, x7⟩ := hd
    cases (show r6 = [] from x7)
    have ok' : okD a = true ∧ okD b = true ∧ okD c = true ∧ okD e = true ∧ okD g = true ∧ okD k = true := by
      have := (okD_tup ok).2
      simpa [okDs] using this
    obtain ⟨o1, o2, o3, o4, o5, o6⟩ := ok'
    refine ⟨_, (pss_cons (ps_asg (pv 0) (pg_tup rfl (pgs_cons (pg_name (i := 2) sc_is_rank_row.nd rfl (Or.inl rfl)) (pgs_cons (pg_name (i := 3) sc_is_rank_row.nd rfl (Or.inl rfl)) (pgs_cons (pg_name (i := 4) sc_is_rank_row.nd rfl (Or.inl rfl)) (pgs_cons (pg_name (i := 5) sc_is_rank_row.nd rfl (Or.inl rfl)) (pgs_cons (pg_name (i := 6) sc_is_rank_row.nd rfl (Or.inl rfl)) (pgs_cons (pg_name (i := 7) sc_is_rank_row.nd rfl (Or.inl rfl)) pgs_nil)))))))) (pss_cons (ps_if (PW.pt (pw_or (pt_not (pt_val (pe_fn h_is_from_nought (hr.mono (by decide)) rfl (pa_cons (pv 2) pa_nil)))) (pw_or (pt_not (pt_val (pe_fn h_is_name (hr.mono (by decide)) rfl (pa_cons (pv 3) pa_nil)))) (pw_or1 (pt_not (pt_val (pe_fn h_is_rank (hr.mono (by decide)) rfl (pa_cons (pv 4) pa_nil)))))))) (pss_one (ps_ret pe_bl)) pss_nil) (pss_one (ps_ret (pe_and (pe_cmpR (op_in_strs hr.units1) (pv 5) (pv 1) (by with_unfolding_all rfl)) (pe_one (pe_fn h_are_days (hr.mono (by decide)) rfl (pa_cons (pv 6) (pa_cons (pv 7) pa_nil))))))))), ?_⟩
    refine seq_hide fun W1 hW1 => ?_
    refine ⟨_, rfl, t, _, rfl, SqT.of ht, rfl, _, _, rfl, _, _, rfl, _, _, rfl, _, _, rfl, _, _, rfl, _, _, rfl, rfl, ?_⟩
    have fl : ∀ (H' : Hp), Same H H' → rankRowD zs (.tuple [a, b, c, e, g, k]) = false → Q (.bl false) H' := fun H' s' e => e ▸ q H' s'
    refine hW1 _ _ ?_
    refine seq_hide fun W2 hW2 => ?_
    refine ⟨_, rfl, v1, a, rfl, x1, o1, fun H1 s1 => ⟨_, rfl, ?_⟩⟩
    refine iteB (fun h1 => iteT (fl _ s1 ?_)) (fun h1 => ?_)
    · have : natD a = false := by simpa using h1
      simp [rankRowD, this]
    refine ⟨_, rfl, v2, b, rfl, x2.same s1, o2, fun H2 s2 => ⟨_, rfl, ?_⟩⟩
    have s12 := s1.trans s2
    refine iteB (fun h2 => iteT (fl _ s12 ?_)) (fun h2 => ?_)
    · have : nameD b = false := by simpa using h2
      simp [rankRowD, this]
    refine ⟨_, rfl, v3, c, rfl, x3.same s12, o3, fun H3 s3 => ⟨_, rfl, ?_⟩⟩
    have s13 := s12.trans s3
    refine iteB (fun h3 => fl _ s13 ?_) (fun h3 => ?_)
    · have : rkD c = false := by simpa using h3
      simp [rankRowD, this]
    have n1 : natD a = true := by simpa using h1
    have n2 : nameD b = true := by simpa using h2
    have n3 : rkD c = true := by simpa using h3
    refine hW2 _ _ ?_
    refine ⟨_, rfl, _, rfl, e, l, zs, rfl, s13 _ _ hl, x4.same s13, _, rfl, ?_⟩
    refine iteB (fun h4 => ?_) (fun h4 => fl _ s13 ?_)
    · refine ⟨_, rfl, _, rfl, v5, v6, g, k, rfl, x5.same s13, x6.same s13, o5, o6, fun H4 s4 => ?_⟩
      have q' := q H4 (s13.trans s4)
      simp only [rankRowD, n1, n2, n3, h4, Bool.true_and] at q'
      exact q'
    · simp [rankRowD, h4]
theorem ok_is_leave_row {f : Addr} {fd : FuncData} (F : Fun K "is_leave_row" "is_leave_row" s_is_leave_row f fd) (T : Txt K mg k_HIGHEST_RANK k_LOWEST_RANK k_MOST_LEAVES k_MOST_LETTERS k_MOST_PARTS k_MOST_RANKS k_MOST_RULES k_MOST_SEATS) (h_is_name : Has P w K mg base "is_name" 1 ["thing"] (sp1 nameD)) (h_is_from_nought : Has P w K mg base "is_from_nought" 2 ["thing"] (sp1 natD)) (h_are_days : Has P w K mg base "are_days" 3 ["first", "last"] (sp2 daysD)) :
    FnOk P w K mg base CX0 4 f fd ["row", "names"] (spN (fun d => tupN 7 d = true) leaveRowD) := by
  refine F.ok sc_is_leave_row (fun vs H Q E h => ?_) (fun cdv A outer s H vs Q E hr h => ?_)
  · obtain ⟨v, d, l, zs, rfl, _⟩ := AN.ex h
    rfl
  · obtain ⟨v, d, l, zs, rfl, hd, ok, hl, hp, q⟩ := AN.ex h
    clear h
    obtain ⟨a, b, c, e, g, k, m, rfl⟩ := tup7 hp
    obtain ⟨t, us, rfl, ht, v1, r1, rfl, x1, v2, r2, rfl, x2, v3, r3, rfl, x3, v4, r4, rfl, x4, v5, r5, rfl, x5, v6, r6, rfl, x6, v7, r7, rfl, x7, x8⟩ := hd
    cases (show r7 = [] from x8)
    have ok' : okD a = true ∧ okD b = true ∧ okD c = true ∧ okD e = true ∧ okD g = true ∧ okD k = true ∧ okD m = true := by
      have := (okD_tup ok).2
      simpa [okDs] using this
    obtain ⟨o1, o2, o3, o4, o5, o6, o7⟩ := ok'
    refine ⟨_, (pss_cons (ps_asg (pv 0) (pg_tup rfl (pgs_cons (pg_name (i := 2) sc_is_leave_row.nd rfl (Or.inl rfl)) (pgs_cons (pg_name (i := 3) sc_is_leave_row.nd rfl (Or.inl rfl)) (pgs_cons (pg_name (i := 4) sc_is_leave_row.nd rfl (Or.inl rfl)) (pgs_cons (pg_name (i := 5) sc_is_leave_row.nd rfl (Or.inl rfl)) (pgs_cons (pg_name (i := 6) sc_is_leave_row.nd rfl (Or.inl rfl)) (pgs_cons (pg_name (i := 7) sc_is_leave_row.nd rfl (Or.inl rfl)) (pgs_cons (pg_name (i := 8) sc_is_leave_row.nd rfl (Or.inl rfl)) pgs_nil))))))))) (pss_cons (ps_if (PW.pt (pw_or (pt_not (pt_val (pe_fn h_is_from_nought (hr.mono (by decide)) rfl (pa_cons (pv 2) pa_nil)))) (pw_or1 (pt_not (pt_val (pe_fn h_is_from_nought (hr.mono (by decide)) rfl (pa_cons (pv 8) pa_nil))))))) (pss_one (ps_ret pe_bl)) pss_nil) (pss_cons (ps_if (PW.pt (pw_or (pt_not (pt_val (pe_fn h_is_name (hr.mono (by decide)) rfl (pa_cons (pv 3) pa_nil)))) (pw_or (pt_not (pt_val (pe_fn h_is_name (hr.mono (by decide)) rfl (pa_cons (pv 4) pa_nil)))) (pw_or1 (pt_cmpR op_eq (pv 3) (pv 4) (nomark _)))))) (pss_one (ps_ret pe_bl)) pss_nil) (pss_one (ps_ret (pe_and (pe_cmpR (op_in_strs hr.units1) (pv 5) (pv 1) (by with_unfolding_all rfl)) (pe_one (pe_fn h_are_days (hr.mono (by decide)) rfl (pa_cons (pv 6) (pa_cons (pv 7) pa_nil)))))))))), ?_⟩
    refine seq_hide fun W1 hW1 => ?_
    refine ⟨_, rfl, t, _, rfl, SqT.of ht, rfl, _, _, rfl, _, _, rfl, _, _, rfl, _, _, rfl, _, _, rfl, _, _, rfl, _, _, rfl, rfl, ?_⟩
    have fl : ∀ (H' : Hp), Same H H' → leaveRowD zs (.tuple [a, b, c, e, g, k, m]) = false → Q (.bl false) H' := fun H' s' e => e ▸ q H' s'
    refine hW1 _ _ ?_
    refine seq_hide fun W2 hW2 => ?_
    refine ⟨_, rfl, v1, a, rfl, x1, o1, fun H1 s1 => ⟨_, rfl, ?_⟩⟩
    refine iteB (fun h1 => iteT (fl _ s1 ?_)) (fun h1 => ?_)
    · have : natD a = false := by simpa using h1
      simp [leaveRowD, this]
    refine ⟨_, rfl, v7, m, rfl, x7.same s1, o7, fun H2 s2 => ⟨_, rfl, ?_⟩⟩
    have s12 := s1.trans s2
    refine iteB (fun h2 => fl _ s12 ?_) (fun h2 => ?_)
    · have : natD m = false := by simpa using h2
      simp [leaveRowD, this]
    refine hW2 _ _ ?_
    refine seq_hide fun W3 hW3 => ?_
    refine ⟨_, rfl, v2, b, rfl, x2.same s12, o2, fun H3 s3 => ⟨_, rfl, ?_⟩⟩
    have s13 := s12.trans s3
    refine iteB (fun h3 => iteT (fl _ s13 ?_)) (fun h3 => ?_)
    · have : nameD b = false := by simpa using h3
      simp [leaveRowD, this]
    refine ⟨_, rfl, v3, c, rfl, x3.same s13, o3, fun H4 s4 => ⟨_, rfl, ?_⟩⟩
    have s14 := s13.trans s4
    refine iteB (fun h4 => iteT (fl _ s14 ?_)) (fun h4 => ?_)
    · have : nameD c = false := by simpa using h4
      simp [leaveRowD, this]
    have n1 : natD a = true := by simpa using h1
    have n2 : natD m = true := by simpa using h2
    have n3 : nameD b = true := by simpa using h3
    have n4 : nameD c = true := by simpa using h4
    obtain ⟨zb, rfl⟩ := name_str n3
    obtain ⟨zc, rfl⟩ := name_str n4
    cases (show v2 = .str zb from x2)
    cases (show v3 = .str zc from x3)
    refine ⟨_, rfl, _, rfl, rfl, _, rfl, ?_⟩
    refine iteB (fun h5 => fl _ s14 ?_) (fun h5 => ?_)
    · have : zb = zc := by simpa using of_decide_eq_true h5
      simp [leaveRowD, eqName, this]
    have n5 : zb ≠ zc := fun e => by
      rw [e] at h5
      simp at h5
    refine hW3 _ _ ?_
    refine ⟨_, rfl, _, rfl, e, l, zs, rfl, s14 _ _ hl, x4.same s14, _, rfl, ?_⟩
    refine iteB (fun h6 => ?_) (fun h6 => fl _ s14 ?_)
    · refine ⟨_, rfl, _, rfl, v5, v6, g, k, rfl, x5.same s14, x6.same s14, o5, o6, fun H5 s5 => ?_⟩
      have q' := q H5 (s14.trans s5)
      have e5 : decide (zb = zc) = false := decide_eq_false n5
      simp only [leaveRowD, eqName, n1, n2, n3, n4, e5, h6, Bool.true_and, Bool.not_false, Bool.and_true] at q'
      exact q'
    · simp [leaveRowD, h6]
theorem ok_is_rule_row {f : Addr} {fd : FuncData} (F : Fun K "is_rule_row" "is_rule_row" s_is_rule_row f fd) (T : Txt K mg k_HIGHEST_RANK k_LOWEST_RANK k_MOST_LEAVES k_MOST_LETTERS k_MOST_PARTS k_MOST_RANKS k_MOST_RULES k_MOST_SEATS) (h_is_from_nought : Has P w K mg base "is_from_nought" 2 ["thing"] (sp1 natD)) (h_is_rank : Has P w K mg base "is_rank" 2 ["thing"] (sp1 rkD)) (h_are_tuples_of : Has P w K mg base "are_tuples_of" 2 ["thing", "many", "most"] (spMM tupsN)) :
    FnOk P w K mg base CX0 4 f fd ["row", "names"] (spN (fun d => tupN 3 d = true) ruleRowD) := by
  refine F.ok sc_is_rule_row (fun vs H Q E h => ?_) (fun cdv A outer s H vs Q E hr h => ?_)
  · obtain ⟨v, d, l, zs, rfl, _⟩ := AN.ex h
    rfl
  · obtain ⟨v, d, l, zs, rfl, hd, ok, hl, hp, q⟩ := AN.ex h
    clear h
    obtain ⟨a, b, c, rfl⟩ := tup3 hp
    obtain ⟨t, us, rfl, ht, v1, r1, rfl, x1, v2, r2, rfl, x2, v3, r3, rfl, x3, x4⟩ := hd
    cases (show r3 = [] from x4)
    have ok' : okD a = true ∧ okD b = true ∧ okD c = true := by
      have := (okD_tup ok).2
      simpa [okDs] using this
    obtain ⟨o1, o2, o3⟩ := ok'
    refine ⟨_, (pss_cons (ps_asg (pv 0) (pg_tup rfl (pgs_cons (pg_name (i := 2) sc_is_rule_row.nd rfl (Or.inl rfl)) (pgs_cons (pg_name (i := 3) sc_is_rule_row.nd rfl (Or.inl rfl)) (pgs_cons (pg_name (i := 4) sc_is_rule_row.nd rfl (Or.inl rfl)) pgs_nil))))) (pss_cons (ps_if (PW.pt (pw_or (pt_cmpR (op_notin_strs hr.units1) (pv 2) (pv 1) (by with_unfolding_all rfl)) (pw_or1 (pt_not (pt_val (pe_fn h_is_from_nought (hr.mono (by decide)) rfl (pa_cons (pv 3) pa_nil))))))) (pss_one (ps_ret pe_bl)) pss_nil) (pss_cons (ps_if (pt_not (pt_val (pe_fn h_are_tuples_of (hr.mono (by decide)) rfl (pa_cons (pv 4) (pa_cons pe_int (pa_cons (pe_glob (v := .int 6) rfl T.c_MOST_SEATS ⟨_, rfl⟩) pa_nil)))))) (pss_one (ps_ret pe_bl)) pss_nil) (pss_one (ps_ret (pe_callB (call_all rfl) rfl T.b_all (by decide +kernel) (pa_cons (pe_lc (T := (.many 2)) (NT := (["rank", "where"] : List Str)) (NF := (["names"] : List Str)) (js := [1]) (BlkC.ok (N0 := (["row", "names", "part", "bound", "seats"] : List Str)) (osc := defScope s_is_rule_row) (by decide +kernel) rfl rfl) (⟨_, _, _, rfl, (.cons ⟨_, rfl⟩ (.cons ⟨_, rfl⟩ .nil)), rfl⟩) rfl (pi_tup (pv 4)) (fun b => ⟨pts_nil, (pe_and (pe_fn h_is_rank (hr.mono (by decide)) rfl (pa_cons (pv 0) pa_nil)) (pe_one (pe_or (pe_cmpR (op_eq_str0 hr.units0) (pv 1) pe_str (nomark _)) (pe_one (pe_cmpR (op_in_strs hr.units1) (pv 1) (pv 2) (by with_unfolding_all rfl))))))⟩)) pa_nil))))))), ?_⟩
    refine seq_hide fun W1 hW1 => ?_
    refine ⟨_, rfl, t, _, rfl, SqT.of ht, rfl, _, _, rfl, _, _, rfl, _, _, rfl, rfl, ?_⟩
    have fl : ∀ (H' : Hp), Same H H' → ruleRowD zs (.tuple [a, b, c]) = false → Q (.bl false) H' := fun H' s' e => e ▸ q H' s'
    refine hW1 _ _ ?_
    refine seq_hide fun W2 hW2 => ?_
    refine ⟨_, rfl, _, rfl, a, l, zs, rfl, hl, x1, _, rfl, ?_⟩
    refine iteB (fun h1 => iteT (fl _ (Same.refl H) ?_)) (fun h1 => ?_)
    · have : inStrs zs a = false := by simpa using h1
      simp [ruleRowD, this]
    refine ⟨_, rfl, v2, b, rfl, x2, o2, fun H2 s2 => ⟨_, rfl, ?_⟩⟩
    refine iteB (fun h2 => fl _ s2 ?_) (fun h2 => ?_)
    · have : natD b = false := by simpa using h2
      simp [ruleRowD, this]
    refine hW2 _ _ ?_
    refine seq_hide fun W3 hW3 => ?_
    refine ⟨_, rfl, v3, c, 2, 6, rfl, x3.same s2, o3, fun H3 s3 => ⟨_, rfl, ?_⟩⟩
    have s13 := s2.trans s3
    refine iteB (fun h3 => fl _ s13 ?_) (fun h3 => ?_)
    · have : tupsN 2 6 c = false := by simpa using h3
      simp [ruleRowD, this]
    have n1 : inStrs zs a = true := by simpa using h1
    have n2 : natD b = true := by simpa using h2
    have n3 : tupsN 2 6 c = true := by simpa using h3
    cases c with
    | tuple ss =>
      have n3' : ¬ (6 : Int) < (ss.length : Int) ∧ ss.all (tupN 2) = true := by
        have : (!decide ((6 : Int) < (ss.length : Int)) && ss.all (tupN 2)) = true := n3
        simpa using this
      obtain ⟨ta, xs, rfl, hta, rx⟩ := x3.same s13
      obtain ⟨rows, vv, e1, e2, e3, e4, e5⟩ := rxs_rows (n := 2) rx n3'.2
      subst e1
      have okss := (okD_tup o3).2
      refine hW3 _ _ ?_
      refine ⟨_, rfl, ta, rfl, ⟨_, SqT.of hta⟩, fun D hD bk => ?_⟩
      refine blk_map (fx_tupT ta 2 rows vv e3) (fun i => .bl (seatRowD zs (ss.getD i .none))) (by rw [sizeLine_eq]; omega) hD (fun H4 s4 => ⟨SqT.of (s4 _ _ hta), fun i c e => SqT.of (s4 _ _ (e4 i c e))⟩) (fun i H4 hi s4 QY qy => ?_) (fun H4 s4 d4 => ?_)
      · have hi' : i < ss.length := by omega
        have ts : tupN 2 (ss.getD i .none) = true := by
          have : ss.getD i .none = ss[i] := by simp [List.getD, hi']
          rw [this]
          exact List.all_eq_true.mp n3'.2 _ (List.getElem_mem hi')
        obtain ⟨p1, p2, ep⟩ := tup2 ts
        have r5 := e5 i hi'
        have ok5 := okDs_at okss hi'
        rw [ep] at r5 qy ok5
        obtain ⟨w1, r1', ev, y1, w2, r2', rfl, y2, y3⟩ := r5
        cases (show r2' = [] from y3)
        rw [ev]
        have ok6 : okD p1 = true ∧ okD p2 = true := by
          have := (okD_tup ok5).2
          simpa [okDs] using this
        refine ⟨_, rfl, w1, p1, rfl, y1.same s4, ok6.1, fun H5 s5 => ⟨_, rfl, ?_⟩⟩
        have qy' : ∀ H6, Same H4 H6 → QY (.bl (rkD p1 && (eqStr (Str.ofString "") p2 || inStrs zs p2))) H6 := qy
        have s45 := s4.trans s5
        refine iteB (fun h5 => ?_) (fun h5 => ?_)
        · refine ⟨_, rfl, p2, _, rfl, y2.same s45, _, rfl, ?_⟩
          have q5 := qy' H5 s5
          rw [h5, Bool.true_and] at q5
          refine iteB (fun h6 => ?_) (fun h6 => ?_)
          · rw [h6] at q5
            exact q5
          · rw [h6, Bool.false_or] at q5
            exact ⟨_, rfl, _, rfl, p2, l, zs, rfl, (s13.trans s45) _ _ hl, y2.same s45, q5⟩
        · have q5 := qy' H5 s5
          rw [h5, Bool.false_and] at q5
          exact q5
      · refine ⟨D, (List.range ss.length).map fun i => seatRowD zs (ss.getD i .none), rfl, SqL.of (by rw [d4, List.map_map, e2]; rfl), ?_⟩
        rw [range_all]
        have q' := q H4 (s13.trans s4)
        simp only [ruleRowD, n1, n2, n3, Bool.true_and, tItems] at q'
        exact q'
    | _ => cases n3
end
end K02

set_option maxHeartbeats 4000000
namespace K02
open PySem L2
/-! ### ranks, leaves, rules -/
def numKey : PyData → Key
  | .tuple (.int i :: _) => .inl i
  | _ => .inl 0
def ruleKey : PyData → List Key
  | .tuple [.str p, .int b, _] => [.inr p, .inl b]
  | _ => []
def ranksD (zs : List Str) (d : PyData) : Bool := tupsN 6 20 d && ((tItems d).all (rankRowD zs) && adj kLt ((tItems d).map numKey))
def leavesD (zs : List Str) (d : PyData) : Bool := tupsN 7 16 d && ((tItems d).all (leaveRowD zs) && adj kLt ((tItems d).map numKey))
def rulesD (zs : List Str) (d : PyData) : Bool := tupsN 3 10 d && ((tItems d).all (ruleRowD zs) && adj ksLt ((tItems d).map ruleKey))
theorem rank_num {zs : List Str} {d : PyData} (h : rankRowD zs d = true) : ∃ i r, d = .tuple (.int i :: r) := by
  unfold rankRowD at h
  split at h
  · simp only [Bool.and_eq_true] at h
    obtain ⟨i, rfl⟩ := isInt_of (natD_int h.1.1.1)
    exact ⟨i, _, rfl⟩
  · cases h
theorem leave_num {zs : List Str} {d : PyData} (h : leaveRowD zs d = true) : ∃ i r, d = .tuple (.int i :: r) := by
  unfold leaveRowD at h
  split at h
  · simp only [Bool.and_eq_true] at h
    obtain ⟨i, rfl⟩ := isInt_of (natD_int h.1.1.1)
    exact ⟨i, _, rfl⟩
  · cases h
theorem inStrs_str {zs : List Str} {d : PyData} (h : inStrs zs d = true) : ∃ z, d = .str z := by
  unfold inStrs at h
  obtain ⟨z, _, e⟩ := List.any_eq_true.mp h
  cases d <;> first | exact ⟨_, rfl⟩ | cases e
theorem rule_key {zs : List Str} {d : PyData} (h : ruleRowD zs d = true) : ∃ p b s, d = .tuple [.str p, .int b, s] := by
  unfold ruleRowD at h
  split at h
  · simp only [Bool.and_eq_true] at h
    obtain ⟨p, rfl⟩ := inStrs_str h.1.1.1
    obtain ⟨b, rfl⟩ := isInt_of (natD_int h.1.1.2)
    exact ⟨p, b, _, rfl⟩
  · cases h
theorem tups_of {n m : Int} {d : PyData} (h : tupsN n m d = true) : ∃ ds, d = .tuple ds ∧ (ds.length : Int) ≤ m ∧ ds.all (tupN n) = true := by
  cases d with
  | tuple ds =>
    have : (!decide (m < (ds.length : Int)) && ds.all (tupN n)) = true := h
    have h' : ¬ m < (ds.length : Int) ∧ ds.all (tupN n) = true := by simpa using this
    exact ⟨ds, rfl, by omega, h'.2⟩
  | _ => cases h
theorem getD_tup {ds : List PyData} {f : PyData → Bool} (h : ds.all f = true) {i : Nat} (hi : i < ds.length) : f (ds.getD i .none) = true := by
  have : ds.getD i .none = ds[i] := by simp [List.getD, hi]
  rw [this]
  exact List.all_eq_true.mp h _ (List.getElem_mem hi)
theorem first_num {H : Hp} {d : PyData} {v : V} (hx : RX H d v) (h : ∃ i r, d = .tuple (.int i :: r)) : ∃ (a : Addr) (r : List V), v = .ref a ∧ H a = some (.tup (kV (numKey d) :: r)) := by
  obtain ⟨i, r, rfl⟩ := h
  obtain ⟨a, vs, rfl, ha, v1, r1, rfl, x1, _⟩ := hx
  cases (show v1 = .int i from x1)
  exact ⟨a, r1, rfl, ha⟩
theorem num_ty (d : PyData) : kTy (numKey d) = true := by
  unfold numKey
  split <;> rfl
section
variable {P : Program} {w : World} {K : PySem.W.Frag} {mg : Str → Option Value} {base : Heap} {k_HIGHEST_RANK k_LOWEST_RANK k_MOST_LEAVES k_MOST_LETTERS k_MOST_PARTS k_MOST_RANKS k_MOST_RULES k_MOST_SEATS : Tok}
theorem ok_are_ranks {f : Addr} {fd : FuncData} (F : Fun K "are_ranks" "are_ranks" s_are_ranks f fd) (T : Txt K mg k_HIGHEST_RANK k_LOWEST_RANK k_MOST_LEAVES k_MOST_LETTERS k_MOST_PARTS k_MOST_RANKS k_MOST_RULES k_MOST_SEATS) (h_is_rank_row : Has P w K mg base "is_rank_row" 4 ["row", "names"] (spN (fun d => tupN 6 d = true) rankRowD)) (h_are_tuples_of : Has P w K mg base "are_tuples_of" 2 ["thing", "many", "most"] (spMM tupsN)) (h_is_rising : Has P w K mg base "is_rising" 1 ["keys"] sp_ris) :
    FnOk P w K mg base CX0 5 f fd ["thing", "names"] (spN (fun _ => True) ranksD) := by
  refine F.ok sc_are_ranks (fun vs H Q E h => ?_) (fun cdv A outer s H vs Q E hr h => ?_)
  · obtain ⟨v, d, l, zs, rfl, _⟩ := AN.ex h
    rfl
  · obtain ⟨v, d, l, zs, rfl, hd, ok, hl, _, q⟩ := AN.ex h
    clear h
    refine ⟨_, (pss_cons (ps_if (pt_not (pt_val (pe_fn h_are_tuples_of (hr.mono (by decide)) rfl (pa_cons (pv 0) (pa_cons pe_int (pa_cons (pe_glob (v := .int 20) rfl T.c_MOST_RANKS ⟨_, rfl⟩) pa_nil)))))) (pss_one (ps_ret pe_bl)) pss_nil) (pss_one (ps_ret (pe_and (pe_callB (call_all rfl) rfl T.b_all (by decide +kernel) (pa_cons (pe_lc (T := .one) (NT := (["row"] : List Str)) (NF := (["names"] : List Str)) (js := [1]) (BlkC.ok (N0 := (["thing", "names"] : List Str)) (osc := defScope s_are_ranks) (by decide +kernel) rfl rfl) (⟨_, ⟨_, rfl⟩, rfl⟩) rfl (pi_tup (pv 0)) (fun b => ⟨pts_nil, (pe_fn h_is_rank_row (hr.mono (by decide)) rfl (pa_cons (pv 0) (pa_cons (pv 1) pa_nil)))⟩)) pa_nil)) (pe_one (pe_fn h_is_rising (hr.mono (by decide)) rfl (pa_cons (pe_lc (T := .one) (NT := (["row"] : List Str)) (NF := ([] : List Str)) (js := []) (BlkC.ok (N0 := (["thing", "names"] : List Str)) (osc := defScope s_are_ranks) (by decide +kernel) rfl rfl) (⟨_, ⟨_, rfl⟩, rfl⟩) rfl (pi_tup (pv 0)) (fun b => ⟨pts_nil, (pe_ix ix_tup (pv 0) pe_int (fun _ _ => rfl))⟩)) pa_nil))))))), ?_⟩
    refine ⟨_, rfl, v, d, 6, 20, rfl, hd, ok, fun H1 s1 => ⟨_, rfl, ?_⟩⟩
    refine iteB (fun h1 => ?_) (fun h1 => ?_)
    · have e : ranksD zs d = false := by
        have : tupsN 6 20 d = false := by simpa using h1
        simp [ranksD, this]
      exact e ▸ q H1 s1
    have n1 : tupsN 6 20 d = true := by simpa using h1
    obtain ⟨ds, rfl, dl, da⟩ := tups_of n1
    obtain ⟨ta, us, rfl, hta, rx⟩ := hd.same s1
    have ul := rxs_len rx
    have oks := (okD_tup ok).2
    refine ⟨_, rfl, ta, rfl, ⟨_, SqT.of hta⟩, fun D hD bk => ?_⟩
    refine blk_map (fx_tup ta us) (fun i => .bl (rankRowD zs (ds.getD i .none))) (by rw [ul, sizeLine_eq]; omega) hD (fun H2 s2 => SqT.of (s2 _ _ hta)) (fun i H2 hi s2 QY qy => ?_) (fun H2 s2 d2 => ?_)
    · have hi' : i < ds.length := by omega
      exact ⟨_, rfl, _, rfl, _, ds.getD i .none, l, zs, rfl, (rxs_at rx hi').same s2, okDs_at oks hi', (s1.trans s2) _ _ hl, getD_tup da hi', qy⟩
    · refine ⟨D, (List.range ds.length).map fun i => rankRowD zs (ds.getD i .none), rfl, SqL.of (by rw [d2, List.map_map, ul]; rfl), _, rfl, ?_⟩
      rw [range_all]
      have e : ranksD zs (.tuple ds) = (ds.all (rankRowD zs) && adj kLt (ds.map numKey)) := by
        unfold ranksD
        rw [n1]
        rfl
      refine iteB (fun h2 => ?_) (fun h2 => ?_)
      · have hta2 := s2 _ _ hta
        refine ⟨_, rfl, ta, rfl, ⟨_, SqT.of hta2⟩, fun D2 hD2 bk2 => ?_⟩
        refine blk_map (fx_tup ta us) (fun i => kV (numKey (ds.getD i .none))) (by rw [ul, sizeLine_eq]; omega) hD2 (fun H3 s3 => SqT.of (s3 _ _ hta2)) (fun i H3 hi s3 QY qy => ?_) (fun H3 s3 d3 => ?_)
        · have hi' : i < ds.length := by omega
          obtain ⟨a, r, ev, ha⟩ := first_num (rxs_at rx hi') (rank_num (getD_tup h2 hi'))
          exact ⟨_, rfl, a, _, 0, _, ev, rfl, SqT.of ((s2.trans s3) _ _ ha), (show atI _ ((0 : Nat) : Int) = _ from atI_nat rfl), qy H3 (Same.refl _)⟩
        · have ek : ((List.range us.length).map fun i => kV (numKey (ds.getD i .none))) = (ds.map numKey).map kV := by
            refine List.ext_getElem (by simp [ul]) fun i g1 g2 => ?_
            have hi' : i < ds.length := by simpa using g2
            simp [List.getD, hi']
          rw [ek] at d3
          refine ⟨D2, rfl, .inl ⟨ds.map numKey, true, d3, fun k hk => ?_, by rw [List.length_map]; omega, fun H4 s4 => ?_⟩⟩
          · obtain ⟨x, _, rfl⟩ := List.mem_map.mp hk
            exact num_ty x
          · have q' := q H4 (s1.trans (s2.trans (s3.trans s4)))
            rw [e, h2, Bool.true_and] at q'
            exact q'
      · have q' := q H2 (s1.trans s2)
        rw [e, h2, Bool.false_and] at q'
        exact q'
theorem ok_are_leaves {f : Addr} {fd : FuncData} (F : Fun K "are_leaves" "are_leaves" s_are_leaves f fd) (T : Txt K mg k_HIGHEST_RANK k_LOWEST_RANK k_MOST_LEAVES k_MOST_LETTERS k_MOST_PARTS k_MOST_RANKS k_MOST_RULES k_MOST_SEATS) (h_is_leave_row : Has P w K mg base "is_leave_row" 4 ["row", "names"] (spN (fun d => tupN 7 d = true) leaveRowD)) (h_are_tuples_of : Has P w K mg base "are_tuples_of" 2 ["thing", "many", "most"] (spMM tupsN)) (h_is_rising : Has P w K mg base "is_rising" 1 ["keys"] sp_ris) :
    FnOk P w K mg base CX0 5 f fd ["thing", "names"] (spN (fun _ => True) leavesD) := by
  refine F.ok sc_are_leaves (fun vs H Q E h => ?_) (fun cdv A outer s H vs Q E hr h => ?_)
  · obtain ⟨v, d, l, zs, rfl, _⟩ := AN.ex h
    rfl
  · obtain ⟨v, d, l, zs, rfl, hd, ok, hl, _, q⟩ := AN.ex h
    clear h
    refine ⟨_, (pss_cons (ps_if (pt_not (pt_val (pe_fn h_are_tuples_of (hr.mono (by decide)) rfl (pa_cons (pv 0) (pa_cons pe_int (pa_cons (pe_glob (v := .int 16) rfl T.c_MOST_LEAVES ⟨_, rfl⟩) pa_nil)))))) (pss_one (ps_ret pe_bl)) pss_nil) (pss_one (ps_ret (pe_and (pe_callB (call_all rfl) rfl T.b_all (by decide +kernel) (pa_cons (pe_lc (T := .one) (NT := (["row"] : List Str)) (NF := (["names"] : List Str)) (js := [1]) (BlkC.ok (N0 := (["thing", "names"] : List Str)) (osc := defScope s_are_leaves) (by decide +kernel) rfl rfl) (⟨_, ⟨_, rfl⟩, rfl⟩) rfl (pi_tup (pv 0)) (fun b => ⟨pts_nil, (pe_fn h_is_leave_row (hr.mono (by decide)) rfl (pa_cons (pv 0) (pa_cons (pv 1) pa_nil)))⟩)) pa_nil)) (pe_one (pe_fn h_is_rising (hr.mono (by decide)) rfl (pa_cons (pe_lc (T := .one) (NT := (["row"] : List Str)) (NF := ([] : List Str)) (js := []) (BlkC.ok (N0 := (["thing", "names"] : List Str)) (osc := defScope s_are_leaves) (by decide +kernel) rfl rfl) (⟨_, ⟨_, rfl⟩, rfl⟩) rfl (pi_tup (pv 0)) (fun b => ⟨pts_nil, (pe_ix ix_tup (pv 0) pe_int (fun _ _ => rfl))⟩)) pa_nil))))))), ?_⟩
    refine ⟨_, rfl, v, d, 7, 16, rfl, hd, ok, fun H1 s1 => ⟨_, rfl, ?_⟩⟩
    refine iteB (fun h1 => ?_) (fun h1 => ?_)
    · have e : leavesD zs d = false := by
        have : tupsN 7 16 d = false := by simpa using h1
        simp [leavesD, this]
      exact e ▸ q H1 s1
    have n1 : tupsN 7 16 d = true := by simpa using h1
    obtain ⟨ds, rfl, dl, da⟩ := tups_of n1
    obtain ⟨ta, us, rfl, hta, rx⟩ := hd.same s1
    have ul := rxs_len rx
    have oks := (okD_tup ok).2
    refine ⟨_, rfl, ta, rfl, ⟨_, SqT.of hta⟩, fun D hD bk => ?_⟩
    refine blk_map (fx_tup ta us) (fun i => .bl (leaveRowD zs (ds.getD i .none))) (by rw [ul, sizeLine_eq]; omega) hD (fun H2 s2 => SqT.of (s2 _ _ hta)) (fun i H2 hi s2 QY qy => ?_) (fun H2 s2 d2 => ?_)
    · have hi' : i < ds.length := by omega
      exact ⟨_, rfl, _, rfl, _, ds.getD i .none, l, zs, rfl, (rxs_at rx hi').same s2, okDs_at oks hi', (s1.trans s2) _ _ hl, getD_tup da hi', qy⟩
    · refine ⟨D, (List.range ds.length).map fun i => leaveRowD zs (ds.getD i .none), rfl, SqL.of (by rw [d2, List.map_map, ul]; rfl), _, rfl, ?_⟩
      rw [range_all]
      have e : leavesD zs (.tuple ds) = (ds.all (leaveRowD zs) && adj kLt (ds.map numKey)) := by
        unfold leavesD
        rw [n1]
        rfl
      refine iteB (fun h2 => ?_) (fun h2 => ?_)
      · have hta2 := s2 _ _ hta
        refine ⟨_, rfl, ta, rfl, ⟨_, SqT.of hta2⟩, fun D2 hD2 bk2 => ?_⟩
        refine blk_map (fx_tup ta us) (fun i => kV (numKey (ds.getD i .none))) (by rw [ul, sizeLine_eq]; omega) hD2 (fun H3 s3 => SqT.of (s3 _ _ hta2)) (fun i H3 hi s3 QY qy => ?_) (fun H3 s3 d3 => ?_)
        · have hi' : i < ds.length := by omega
          obtain ⟨a, r, ev, ha⟩ := first_num (rxs_at rx hi') (leave_num (getD_tup h2 hi'))
          exact ⟨_, rfl, a, _, 0, _, ev, rfl, SqT.of ((s2.trans s3) _ _ ha), (show atI _ ((0 : Nat) : Int) = _ from atI_nat rfl), qy H3 (Same.refl _)⟩
        · have ek : ((List.range us.length).map fun i => kV (numKey (ds.getD i .none))) = (ds.map numKey).map kV := by
            refine List.ext_getElem (by simp [ul]) fun i g1 g2 => ?_
            have hi' : i < ds.length := by simpa using g2
            simp [List.getD, hi']
          rw [ek] at d3
          refine ⟨D2, rfl, .inl ⟨ds.map numKey, true, d3, fun k hk => ?_, by rw [List.length_map]; omega, fun H4 s4 => ?_⟩⟩
          · obtain ⟨x, _, rfl⟩ := List.mem_map.mp hk
            exact num_ty x
          · have q' := q H4 (s1.trans (s2.trans (s3.trans s4)))
            rw [e, h2, Bool.true_and] at q'
            exact q'
      · have q' := q H2 (s1.trans s2)
        rw [e, h2, Bool.false_and] at q'
        exact q'
theorem ok_are_rules {f : Addr} {fd : FuncData} (F : Fun K "are_rules" "are_rules" s_are_rules f fd) (T : Txt K mg k_HIGHEST_RANK k_LOWEST_RANK k_MOST_LEAVES k_MOST_LETTERS k_MOST_PARTS k_MOST_RANKS k_MOST_RULES k_MOST_SEATS) (h_is_rule_row : Has P w K mg base "is_rule_row" 4 ["row", "names"] (spN (fun d => tupN 3 d = true) ruleRowD)) (h_are_tuples_of : Has P w K mg base "are_tuples_of" 2 ["thing", "many", "most"] (spMM tupsN)) (h_is_rising : Has P w K mg base "is_rising" 1 ["keys"] sp_ris) :
    FnOk P w K mg base CX0 5 f fd ["thing", "names"] (spN (fun _ => True) rulesD) := by
  refine F.ok sc_are_rules (fun vs H Q E h => ?_) (fun cdv A outer s H vs Q E hr h => ?_)
  · obtain ⟨v, d, l, zs, rfl, _⟩ := AN.ex h
    rfl
  · obtain ⟨v, d, l, zs, rfl, hd, ok, hl, _, q⟩ := AN.ex h
    clear h
    refine ⟨_, (pss_cons (ps_if (pt_not (pt_val (pe_fn h_are_tuples_of (hr.mono (by decide)) rfl (pa_cons (pv 0) (pa_cons pe_int (pa_cons (pe_glob (v := .int 10) rfl T.c_MOST_RULES ⟨_, rfl⟩) pa_nil)))))) (pss_one (ps_ret pe_bl)) pss_nil) (pss_cons (ps_if (pt_not (pt_val (pe_callB (call_all rfl) rfl T.b_all (by decide +kernel) (pa_cons (pe_lc (T := .one) (NT := (["row"] : List Str)) (NF := (["names"] : List Str)) (js := [1]) (BlkC.ok (N0 := (["thing", "names"] : List Str)) (osc := defScope s_are_rules) (by decide +kernel) rfl rfl) (⟨_, ⟨_, rfl⟩, rfl⟩) rfl (pi_tup (pv 0)) (fun b => ⟨pts_nil, (pe_fn h_is_rule_row (hr.mono (by decide)) rfl (pa_cons (pv 0) (pa_cons (pv 1) pa_nil)))⟩)) pa_nil)))) (pss_one (ps_ret pe_bl)) pss_nil) (pss_one (ps_ret (pe_fn h_is_rising (hr.mono (by decide)) rfl (pa_cons (pe_lc (T := (.many 3)) (NT := (["part", "bound", "seats"] : List Str)) (NF := ([] : List Str)) (js := []) (BlkC.ok (N0 := (["thing", "names"] : List Str)) (osc := defScope s_are_rules) (by decide +kernel) rfl rfl) (⟨_, _, _, rfl, (.cons ⟨_, rfl⟩ (.cons ⟨_, rfl⟩ (.cons ⟨_, rfl⟩ .nil))), rfl⟩) rfl (pi_tup (pv 0)) (fun b => ⟨pts_nil, (pe_tup (pa_cons (pv 0) (pa_cons (pv 1) pa_nil)))⟩)) pa_nil)))))), ?_⟩
    refine ⟨_, rfl, v, d, 3, 10, rfl, hd, ok, fun H1 s1 => ⟨_, rfl, ?_⟩⟩
    refine iteB (fun h1 => ?_) (fun h1 => ?_)
    · have e : rulesD zs d = false := by
        have : tupsN 3 10 d = false := by simpa using h1
        simp [rulesD, this]
      exact e ▸ q H1 s1
    have n1 : tupsN 3 10 d = true := by simpa using h1
    obtain ⟨ds, rfl, dl, da⟩ := tups_of n1
    obtain ⟨ta, us, rfl, hta, rx⟩ := hd.same s1
    have ul := rxs_len rx
    have oks := (okD_tup ok).2
    refine ⟨_, rfl, ta, rfl, ⟨_, SqT.of hta⟩, fun D hD bk => ?_⟩
    refine blk_map (fx_tup ta us) (fun i => .bl (ruleRowD zs (ds.getD i .none))) (by rw [ul, sizeLine_eq]; omega) hD (fun H2 s2 => SqT.of (s2 _ _ hta)) (fun i H2 hi s2 QY qy => ?_) (fun H2 s2 d2 => ?_)
    · have hi' : i < ds.length := by omega
      exact ⟨_, rfl, _, rfl, _, ds.getD i .none, l, zs, rfl, (rxs_at rx hi').same s2, okDs_at oks hi', (s1.trans s2) _ _ hl, getD_tup da hi', qy⟩
    · refine ⟨D, (List.range ds.length).map fun i => ruleRowD zs (ds.getD i .none), rfl, SqL.of (by rw [d2, List.map_map, ul]; rfl), _, rfl, ?_⟩
      rw [range_all]
      have e : rulesD zs (.tuple ds) = (ds.all (ruleRowD zs) && adj ksLt (ds.map ruleKey)) := by
        unfold rulesD
        rw [n1]
        rfl
      refine iteB (fun h2 => ?_) (fun h2 => ?_)
      · have h2' : ds.all (ruleRowD zs) = false := by simpa using h2
        have q' := q H2 (s1.trans s2)
        rw [e, h2', Bool.false_and] at q'
        exact q'
      · have h2' : ds.all (ruleRowD zs) = true := by simpa using h2
        have hta2 := s2 _ _ hta
        obtain ⟨rows, vv, e1, e2, e3, e4, e5⟩ := rxs_rows (n := 3) (rx.same s2) da
        subst e1
        refine ⟨_, rfl, ta, rfl, ⟨_, SqT.of hta2⟩, fun D2 hD2 bk2 => ?_⟩
        refine blk_invm (fx_tupT ta 3 rows vv e3) (fun i acc H3 => Same H2 H3 ∧ H3 D2 = some (.lst acc) ∧ ∃ rs : List Row, acc = (rs.map fun r => V.ref r.1) ∧ rs.map (·.2) = (ds.map ruleKey).take i ∧ ∀ r ∈ rs, H3 r.1 = some (.tup (r.2.map kV)) ∧ r.2.map kTy = [false, true]) ⟨Same.upd hD2, upd_same, [], rfl, rfl, by simp⟩
          (fun i acc H3 _ h => ⟨SqT.of (h.1 _ _ hta2), fun j c e => SqT.of (h.1 _ _ (e4 j c e))⟩) (fun i acc H3 hi h => ?_) (by rw [sizeLine_eq]; omega) (fun i acc H3 hi ⟨s3, d3, rs, ea, ek, hrs⟩ QY qy => ?_) (fun acc H3 ⟨s3, d3, rs, ea, ek, hrs⟩ => ?_)
        · obtain ⟨_, d3, rs, ea, ek, _⟩ := h
          refine ⟨d3, ?_⟩
          rw [ea, List.length_map]
          have := congrArg List.length ek
          rw [List.length_map, List.length_take] at this
          omega
        · have hi' : i < ds.length := by omega
          obtain ⟨p, b, s', ep⟩ := rule_key (getD_tup h2' hi')
          have r5 := e5 i hi'
          rw [ep] at r5
          obtain ⟨w1, q1, ev, y1, w2, q2, rfl, y2, w3, q3, rfl, y3, y4⟩ := r5
          cases (show q3 = [] from y4)
          cases (show w1 = .str p from y1)
          cases (show w2 = .int b from y2)
          rw [ev]
          refine ⟨_, rfl, _, rfl, by show 2 ≤ sizeLine; decide, fun t ht => ?_⟩
          have st := Same.upd (o := .tup [.str p, .int b]) ht
          have tD : t ≠ D2 := fun e => by
            subst e
            rw [d3] at ht
            cases ht
          refine qy _ _ (st _ _ d3) ⟨fun c o e => ?_, upd_same, rs ++ [(t, [.inr p, .inl b])], by rw [ea, List.map_append]; rfl, ?_, fun r hr => ?_⟩
          · rw [upd_ne (ne_of_none e hD2)]
            exact st _ _ (s3 _ _ e)
          · rw [List.map_append, ek, List.take_succ]
            have : (ds.map ruleKey)[i]? = some (ruleKey (ds.getD i .none)) := by
              rw [List.getElem?_map, List.getElem?_eq_getElem hi']
              simp [List.getD, hi']
            rw [this, ep]
            rfl
          · rcases List.mem_append.mp hr with hr | hr
            · obtain ⟨g1, g2⟩ := hrs r hr
              refine ⟨?_, g2⟩
              rw [upd_ne (ne_of g1 d3 (by simp))]
              exact st _ _ g1
            · rw [List.mem_singleton.mp hr]
              refine ⟨?_, rfl⟩
              rw [upd_ne tD]
              exact upd_same
        · rw [e2, ← List.length_map (f := ruleKey), List.take_length] at ek
          refine ⟨D2, rfl, .inr ⟨rs, [false, true], by rw [d3, ea], hrs, ?_, fun H4 s4 => ?_⟩⟩
          · have := congrArg List.length ek
            rw [List.length_map, List.length_map] at this
            omega
          · have q' := q H4 (s1.trans (s2.trans (s3.trans s4)))
            rw [e, h2', Bool.true_and, ← ek] at q'
            exact q'
end
end K02

set_option maxHeartbeats 4000000
namespace K02
open PySem L2
def lookP (ps : List (Str × Str)) (z : Str) : Option Str := (ps.find? fun p => decide (p.1 = z)).map (·.2)
def kvsOf (ps : List (Str × Str)) : List (Key × V) := ps.map fun p => (.inr p.1, .str p.2)
theorem val_kvs (ps : List (Str × Str)) (z : Str) : valV (kvsOf ps) (.inr z) = (lookP ps z).map V.str := by
  induction ps with
  | nil => rfl
  | cons p r ih =>
    by_cases e : p.1 = z
    · have : valV (kvsOf (p :: r)) (.inr z) = some (.str p.2) := valV_pos (p := ((.inr p.1 : Key), V.str p.2)) (by rw [e])
      rw [this]
      simp [lookP, e]
    · have : valV (kvsOf (p :: r)) (.inr z) = valV (kvsOf r) (.inr z) := valV_neg (p := ((.inr p.1 : Key), V.str p.2)) (by simpa using e)
      rw [this, ih]
      simp [lookP, e]
theorem put_new {ps : List (Str × Str)} {p : Str × Str} (h : ∀ q ∈ ps, q.1 ≠ p.1) : putK (kvsOf ps) (.inr p.1) (.str p.2) = kvsOf (ps ++ [p]) := by
  unfold putK
  rw [if_neg]
  · simp [kvsOf]
  · intro e
    rw [List.any_eq_true] at e
    obtain ⟨kv, hk, e⟩ := e
    obtain ⟨q, hq, rfl⟩ := List.mem_map.mp hk
    have := of_decide_eq_true e
    exact h q hq (by simpa using this)
theorem look_mem {ps : List (Str × Str)} {z y : Str} (h : lookP ps z = some y) : (z, y) ∈ ps := by
  unfold lookP at h
  obtain ⟨x, hx, e⟩ := Option.map_eq_some_iff.mp h
  have h1 := List.find?_some hx
  have h2 := List.mem_of_find?_eq_some hx
  have e1 : x.1 = z := of_decide_eq_true h1
  rw [← e1, ← e]
  exact h2
theorem look_of {ps : List (Str × Str)} (hn : (ps.map (·.1)).Nodup) {z y : Str} (h : (z, y) ∈ ps) : lookP ps z = some y := by
  induction ps with
  | nil => cases h
  | cons p r ih =>
    rw [List.map_cons, List.nodup_cons] at hn
    rcases List.mem_cons.mp h with e | h
    · rw [← e]
      simp [lookP]
    · have ne : p.1 ≠ z := fun e => hn.1 (by rw [e]; exact List.mem_map.mpr ⟨(z, y), h, rfl⟩)
      have := ih hn.2 h
      unfold lookP at this ⊢
      rw [List.find?_cons, decide_eq_false ne]
      exact this
/-! ### parts -/
def endB (f : Str → Option Str) : Nat → Str → Bool
  | 0, _ => false
  | n + 1, z => match f z with
    | some y => if y = Str.ofString "" then true else endB f n y
    | none => false
theorem endB_succ (f : Str → Option Str) (n : Nat) (z : Str) : endB f (n + 1) z = match f z with | some y => if y = Str.ofString "" then true else endB f n y | none => false := rfl
structure EndP (vs : List V) (H : Hp) (Q : VK) : Prop where
  ex : ∃ (D : Addr) (z : Str) (ps : List (Str × Str)), vs = [.ref D, .str z] ∧ H D = some (.dK (kvsOf ps)) ∧ ps.length ≤ 100 ∧ (∀ x y, lookP ps x = some y → y = Str.ofString "" ∨ lookP ps y ≠ none) ∧ lookP ps z ≠ none ∧ Q (.bl (endB (lookP ps) ps.length z)) H
def sp_end : Sp := fun vs H Q _ => EndP vs H Q
def firstD (d : PyData) : PyData := (tItems d).getD 0 .none
def secondD (d : PyData) : PyData := (tItems d).getD 1 .none
def strOf : PyData → Str
  | .str z => z
  | _ => ⟨#[]⟩
def namesD (d : PyData) : List Str := (tItems d).map fun x => strOf (firstD x)
def pairsD (d : PyData) : List (Str × Str) := (tItems d).map fun x => (strOf (firstD x), strOf (secondD x))
def withinB (zs : List Str) (x : PyData) : Bool := eqStr (Str.ofString "") (secondD x) || inStrs zs (secondD x)
def partsD (d : PyData) : Bool := tupsN 2 8 d && ((tItems d).all (fun x => nameD (firstD x)) && adj kLt ((namesD d).map fun z => (.inr z : Key)) && ((tItems d).all (withinB (namesD d)) && (namesD d).all (endB (lookP (pairsD d)) (pairsD d).length)))
theorem lex_irr (l : List Nat) : ¬ l < l := List.lt_irrefl l
theorem adj_sorted : ∀ {zs : List Str}, adj kLt (zs.map fun z => (.inr z : Key)) = true → zs.Pairwise (fun x y => x.cps.toList < y.cps.toList)
  | [], _ => .nil
  | [a], _ => List.pairwise_singleton _ _
  | a :: b :: r, h => by
    have h' : kLt (.inr a) (.inr b) = true ∧ adj kLt ((b :: r).map fun z => (.inr z : Key)) = true := by simpa [adj] using h
    have hab : a.cps.toList < b.cps.toList := of_decide_eq_true h'.1
    have ih := adj_sorted h'.2
    refine List.pairwise_cons.mpr ⟨fun x hx => ?_, ih⟩
    rcases List.mem_cons.mp hx with rfl | hx
    · exact hab
    · exact List.lt_trans hab ((List.pairwise_cons.mp ih).1 x hx)
theorem adj_nodup {zs : List Str} (h : adj kLt (zs.map fun z => (.inr z : Key)) = true) : zs.Nodup :=
  (adj_sorted h).imp fun {a b} hab e => by
    subst e
    exact lex_irr _ hab
theorem inStrs_iff {zs : List Str} {z : Str} : inStrs zs (.str z) = true ↔ z ∈ zs := by
  unfold inStrs
  rw [List.any_eq_true]
  constructor
  · rintro ⟨x, hx, e⟩
    have : z = x := of_decide_eq_true e
    rw [this]
    exact hx
  · intro h
    exact ⟨z, h, decide_eq_true rfl⟩
theorem look_none {ps : List (Str × Str)} {z : Str} (h : z ∈ ps.map (·.1)) : lookP ps z ≠ none := by
  induction ps with
  | nil => simp at h
  | cons p r ih =>
    unfold lookP
    rw [List.find?_cons]
    by_cases e : p.1 = z
    · rw [decide_eq_true e]
      simp
    · rw [decide_eq_false e]
      rw [List.map_cons] at h
      rcases List.mem_cons.mp h with h | h
      · exact absurd h.symm e
      · exact ih h
section
variable {P : Program} {w : World} {K : PySem.W.Frag} {mg : Str → Option Value} {base : Heap} {k_HIGHEST_RANK k_LOWEST_RANK k_MOST_LEAVES k_MOST_LETTERS k_MOST_PARTS k_MOST_RANKS k_MOST_RULES k_MOST_SEATS : Tok}
theorem ok_comes_to_an_end {f : Addr} {fd : FuncData} (F : Fun K "comes_to_an_end" "comes_to_an_end" s_comes_to_an_end f fd) (T : Txt K mg k_HIGHEST_RANK k_LOWEST_RANK k_MOST_LEAVES k_MOST_LETTERS k_MOST_PARTS k_MOST_RANKS k_MOST_RULES k_MOST_SEATS) : FnOk P w K mg base CX0 1 f fd ["outer", "name"] sp_end := by
  refine F.ok sc_comes_to_an_end (fun vs H Q E h => ?_) (fun cdv A outer s H vs Q E hr h => ?_)
  · obtain ⟨D, z, ps, rfl, _⟩ := EndP.ex h
    rfl
  · obtain ⟨D, z, ps, rfl, hD, pl, cl, hz, q⟩ := EndP.ex h
    clear h
    refine ⟨_, (pss_cons (ps_for PassesOwn.never rfl (pi_range1 rfl T.b_range (pa_cons (pe_callB call_lenD rfl T.b_len (by decide +kernel) (pa_cons (pv 0) pa_nil)) pa_nil)) (pg_name (i := 2) sc_comes_to_an_end.nd rfl (Or.inl rfl)) (pss_cons (ps_set (i := 1) sc_comes_to_an_end.nd rfl (Or.inl rfl) (pe_dget hr.units1 (pv 0) (pv 1) (fun _ _ => rfl))) (pss_one (ps_if (pt_cmpR op_eq (pv 1) pe_str (nomark _)) (pss_one (ps_ret pe_bl)) pss_nil)))) (pss_one (ps_ret pe_bl))), ?_⟩
    have kl : (kvsOf ps).length = ps.length := by unfold kvsOf; rw [List.length_map]
    refine ⟨_, rfl, D, _, rfl, hD, _, rfl, by omega, by omega, for_range (fun i σ H' => ∃ (z' : Str) (v2 : Option V), σ = [some (.ref D), some (.str z'), v2] ∧ H' = H ∧ lookP ps z' ≠ none ∧ endB (lookP ps) (ps.length - i) z' = endB (lookP ps) ps.length z) ⟨z, _, rfl, rfl, hz, rfl⟩ ?_ ?_⟩
    · rintro i σ H' hi ⟨z', v2, rfl, rfl, hz', he⟩
      rw [kl] at hi
      have hi' : i < ps.length := by simpa using hi
      cases ey : lookP ps z' with
      | none => exact absurd ey hz'
      | some y =>
        have g : DGet H' D (.str z') (some (.str y)) := by
          have := DGet.k (H := H') (k := .inr z') hD
          rw [val_kvs, ey] at this
          exact this
        refine ⟨_, rfl, _, rfl, D, _, rfl, g, _, rfl, rfl, _, rfl, ?_⟩
        have en : ps.length - i = (ps.length - (i + 1)) + 1 := by omega
        rw [en, endB_succ, ey] at he
        refine iteB (fun h1 => ?_) (fun h1 => ?_)
        · have : y = Str.ofString "" := by simpa using of_decide_eq_true h1
          simp only [this, if_true] at he
          rw [← he] at q
          exact q
        · have hy : y ≠ Str.ofString "" := fun e => by
            rw [e] at h1
            simp at h1
          simp only [hy, if_false] at he
          refine ⟨y, _, rfl, rfl, (cl z' y ey).resolve_left hy, he⟩
    · rintro σ H' ⟨z', v2, rfl, rfl, hz', he⟩
      rw [kl] at he
      have e0 : ps.length - ((ps.length : Nat) : Int).toNat = 0 := by simp
      rw [e0] at he
      have he' : false = endB (lookP ps) ps.length z := he
      rw [← he'] at q
      exact q
end
end K02

set_option maxHeartbeats 4000000
namespace K02
open PySem L2
theorem two_of {vs : List V} (h : vs.length = 2) : ∃ x y, vs = [x, y] := by
  match vs, h with
  | [x, y], _ => exact ⟨x, y, rfl⟩
theorem first_second {H : Hp} {d : PyData} {x y : V} (h : RXs H (tItems d) [x, y]) : RX H (firstD d) x ∧ RX H (secondD d) y ∧ ∃ a b, tItems d = [a, b] := by
  unfold firstD secondD
  cases e : tItems d with
  | nil => rw [e] at h; cases (show [x, y] = [] from h)
  | cons a r =>
    rw [e] at h
    obtain ⟨v, t, e1, h1, h2⟩ := h
    cases e1
    cases r with
    | nil => cases (show [y] = [] from h2)
    | cons b r =>
      obtain ⟨v, t, e2, h3, h4⟩ := h2
      cases e2
      cases r with
      | nil => exact ⟨h1, h3, a, b, rfl⟩
      | cons c r =>
        obtain ⟨v, t, e3, _⟩ := h4
        cases e3
theorem rx_str {H : Hp} {d : PyData} {v : V} (h : RX H d v) (hn : ∃ z, d = .str z) : v = .str (strOf d) := by
  obtain ⟨z, rfl⟩ := hn
  exact h
theorem ok_items {d : PyData} (h : okD d = true) : okDs (tItems d) = true := by
  cases d with
  | tuple ds => exact (okD_tup h).2
  | _ => rfl
theorem ok_first {d : PyData} (h : okD d = true) : okD (firstD d) = true := by
  unfold firstD
  by_cases hl : 0 < (tItems d).length
  · exact okDs_at (ok_items h) hl
  · have : tItems d = [] := by
      cases e : tItems d with
      | nil => rfl
      | cons a r => rw [e] at hl; simp at hl
    rw [this]
    rfl
def isHouseD (d : PyData) : Bool := match d with
  | .tuple [a, b, c, e] => partsD a && (ranksD (namesD a) b && (leavesD (namesD a) c && rulesD (namesD a) e))
  | _ => false
section
variable {P : Program} {w : World} {K : PySem.W.Frag} {mg : Str → Option Value} {base : Heap} {k_HIGHEST_RANK k_LOWEST_RANK k_MOST_LEAVES k_MOST_LETTERS k_MOST_PARTS k_MOST_RANKS k_MOST_RULES k_MOST_SEATS : Tok}
theorem ok_are_parts {f : Addr} {fd : FuncData} (F : Fun K "are_parts" "are_parts" s_are_parts f fd) (T : Txt K mg k_HIGHEST_RANK k_LOWEST_RANK k_MOST_LEAVES k_MOST_LETTERS k_MOST_PARTS k_MOST_RANKS k_MOST_RULES k_MOST_SEATS) (h_is_name : Has P w K mg base "is_name" 1 ["thing"] (sp1 nameD)) (h_are_tuples_of : Has P w K mg base "are_tuples_of" 2 ["thing", "many", "most"] (spMM tupsN)) (h_is_rising : Has P w K mg base "is_rising" 1 ["keys"] sp_ris) (h_comes_to_an_end : Has P w K mg base "comes_to_an_end" 1 ["outer", "name"] sp_end) :
    FnOk P w K mg base CX0 3 f fd ["thing"] (sp1 partsD) := by
  refine F.ok sc_are_parts (fun vs H Q E h => ?_) (fun cdv A outer s H vs Q E hr h => ?_)
  · obtain ⟨v, d, rfl, _⟩ := A1.ex h
    rfl
  · obtain ⟨v, d, rfl, hd, ok, q⟩ := A1.ex h
    clear h
    refine ⟨_, (pss_cons (ps_if (pt_not (pt_val (pe_fn h_are_tuples_of (hr.mono (by decide)) rfl (pa_cons (pv 0) (pa_cons pe_int (pa_cons (pe_glob (v := .int 8) rfl T.c_MOST_PARTS ⟨_, rfl⟩) pa_nil)))))) (pss_one (ps_ret pe_bl)) pss_nil) (pss_cons (ps_set (i := 1) sc_are_parts.nd rfl (Or.inr rfl) (pe_lc (T := (.many 2)) (NT := (["name", "within"] : List Str)) (NF := ([] : List Str)) (js := []) (BlkC.ok (N0 := (["thing", "names", "outer"] : List Str)) (osc := defScope s_are_parts) (by decide +kernel) rfl rfl) (⟨_, _, _, rfl, (.cons ⟨_, rfl⟩ (.cons ⟨_, rfl⟩ .nil)), rfl⟩) rfl (pi_tup (pv 0)) (fun b => ⟨pts_nil, (pv 0)⟩))) (pss_cons (ps_if (PW.pt (pw_or (pt_not (pt_val (pe_callB (call_all rfl) rfl T.b_all (by decide +kernel) (pa_cons (pe_lc (T := .one) (NT := (["name"] : List Str)) (NF := ([] : List Str)) (js := []) (BlkC.ok (N0 := (["thing", "names", "outer"] : List Str)) (osc := defScope s_are_parts) (by decide +kernel) rfl rfl) (⟨_, ⟨_, rfl⟩, rfl⟩) rfl (pi_list (pv 1)) (fun b => ⟨pts_nil, (pe_fn h_is_name (hr.mono (by decide)) rfl (pa_cons (pv 0) pa_nil))⟩)) pa_nil)))) (pw_or1 (pt_not (pt_val (pe_fn h_is_rising (hr.mono (by decide)) rfl (pa_cons (pv 1) pa_nil))))))) (pss_one (ps_ret pe_bl)) pss_nil) (pss_cons (ps_if (pt_not (pt_val (pe_callB (call_all rfl) rfl T.b_all (by decide +kernel) (pa_cons (pe_lc (T := (.many 2)) (NT := (["name", "within"] : List Str)) (NF := (["names"] : List Str)) (js := [1]) (BlkC.ok (N0 := (["thing", "names", "outer"] : List Str)) (osc := defScope s_are_parts) (by decide +kernel) rfl rfl) (⟨_, _, _, rfl, (.cons ⟨_, rfl⟩ (.cons ⟨_, rfl⟩ .nil)), rfl⟩) rfl (pi_tup (pv 0)) (fun b => ⟨pts_nil, (pe_or (pe_cmpR (op_eq_str0 hr.units0) (pv 1) pe_str (nomark _)) (pe_one (pe_cmpR (op_in_strs hr.units1) (pv 1) (pv 2) (by with_unfolding_all rfl))))⟩)) pa_nil)))) (pss_one (ps_ret pe_bl)) pss_nil) (pss_cons (ps_set (i := 2) sc_are_parts.nd rfl (Or.inr rfl) (pe_dc (T := (.many 2)) (NT := (["name", "within"] : List Str)) (NF := ([] : List Str)) (js := []) (BlkC.ok (N0 := (["thing", "names", "outer"] : List Str)) (osc := defScope s_are_parts) (by decide +kernel) rfl rfl) (⟨_, _, _, rfl, (.cons ⟨_, rfl⟩ (.cons ⟨_, rfl⟩ .nil)), rfl⟩) rfl hr.units1 (pi_tup (pv 0)) (fun b => ⟨pts_nil, (pv 0), (pv 1)⟩))) (pss_one (ps_ret (pe_callB (call_all rfl) rfl T.b_all (by decide +kernel) (pa_cons (pe_lc (T := .one) (NT := (["name"] : List Str)) (NF := (["outer"] : List Str)) (js := [2]) (BlkC.ok (N0 := (["thing", "names", "outer"] : List Str)) (osc := defScope s_are_parts) (by decide +kernel) rfl rfl) (⟨_, ⟨_, rfl⟩, rfl⟩) rfl (pi_list (pv 1)) (fun b => ⟨pts_nil, (pe_fn h_comes_to_an_end (hr.mono (by decide)) rfl (pa_cons (pv 1) (pa_cons (pv 0) pa_nil)))⟩)) pa_nil))))))))), ?_⟩
    have fl : ∀ (H' : Hp), Same H H' → partsD d = false → Q (.bl false) H' := fun H' s' e => e ▸ q H' s'
    refine seq_hide fun W1 hW1 => ?_
    refine ⟨_, rfl, v, d, 2, 8, rfl, hd, ok, fun H1 s1 => ⟨_, rfl, ?_⟩⟩
    refine iteB (fun h1 => fl _ s1 ?_) (fun h1 => ?_)
    · have : tupsN 2 8 d = false := by simpa using h1
      simp [partsD, this]
    have n1 : tupsN 2 8 d = true := by simpa using h1
    obtain ⟨ds, rfl, dl, da⟩ := tups_of n1
    obtain ⟨ta, us, rfl, hta, rx⟩ := hd.same s1
    have oks := (okD_tup ok).2
    obtain ⟨rows, vv, e1, e2, e3, e4, e5⟩ := rxs_rows (n := 2) rx da
    subst e1
    have two : ∀ i, i < ds.length → ∃ x y, vv i = [x, y] ∧ RX H1 (firstD (ds.getD i .none)) x ∧ RX H1 (secondD (ds.getD i .none)) y := fun i hi => by
      obtain ⟨x, y, e⟩ := two_of (e3 i (by omega))
      have r := e5 i hi
      rw [e] at r
      obtain ⟨a1, a2, _⟩ := first_second r
      exact ⟨x, y, e, a1, a2⟩
    refine hW1 _ _ ?_
    refine seq_hide fun W2 hW2 => ?_
    refine ⟨_, rfl, ta, rfl, ⟨_, SqT.of hta⟩, fun D hD bk => ?_⟩
    refine blk_map (fx_tupT ta 2 rows vv e3) (fun i => (vv i).getD 0 .non) (by rw [sizeLine_eq]; omega) hD (fun H2 s2 => ⟨SqT.of (s2 _ _ hta), fun i c e => SqT.of (s2 _ _ (e4 i c e))⟩) (fun i H2 hi s2 QY qy => ?_) (fun H2 s2 d2 => ?_)
    · obtain ⟨x, y, e, _, _⟩ := two i (by omega)
      have qy' := qy H2 (Same.refl _)
      rw [e] at qy' ⊢
      exact ⟨_, rfl, qy'⟩
    have s12 := s1.trans s2
    have D2 : H2 D = some (.lst ((List.range ds.length).map fun i => (vv i).getD 0 .non)) := by rw [d2, e2]
    refine hW2 _ _ ?_
    refine seq_hide fun W3 hW3 => ?_
    refine ⟨_, rfl, D, rfl, ⟨_, SqL.of D2⟩, fun D3 hD3 bk3 => ?_⟩
    refine blk_map (fx_list D _) (fun i => .bl (nameD (firstD (ds.getD i .none)))) (by rw [List.length_map, List.length_range, sizeLine_eq]; omega) hD3 (fun H3 s3 => SqL.of (s3 _ _ D2)) (fun i H3 hi s3 QY qy => ?_) (fun H3 s3 d3 => ?_)
    · rw [List.length_map, List.length_range] at hi
      obtain ⟨x, y, e, hx, _⟩ := two i hi
      have ev : ((List.range ds.length).map fun i => (vv i).getD 0 .non).getD i .non = x := by
        rw [List.getD_eq_getElem?_getD, List.getElem?_map, List.getElem?_range hi]
        show (vv i).getD 0 .non = x
        rw [e]
        rfl
      refine ⟨_, rfl, x, firstD (ds.getD i .none), (by rw [← ev]; rfl), hx.same (s2.trans s3), ok_first (okDs_at oks hi), qy⟩
    rw [List.length_map, List.length_range] at d3
    refine ⟨D3, (List.range ds.length).map fun i => nameD (firstD (ds.getD i .none)), rfl, SqL.of (by rw [d3, List.map_map]; rfl), _, rfl, ?_⟩
    rw [range_all ds .none fun x => nameD (firstD x)]
    have s13 := s12.trans s3
    refine iteB (fun h2 => iteT (fl _ s13 ?_)) (fun h2 => ?_)
    · have : ds.all (fun x => nameD (firstD x)) = false := by simpa using h2
      unfold partsD
      rw [show (tItems (.tuple ds)).all (fun x => nameD (firstD x)) = false from this]
      simp
    have n2 : ds.all (fun x => nameD (firstD x)) = true := by simpa using h2
    have nm : ∀ i, i < ds.length → ∃ z, firstD (ds.getD i .none) = .str z := fun i hi => name_str (getD_tup (f := fun x => nameD (firstD x)) n2 hi)
    have ez : ((List.range ds.length).map fun i => (vv i).getD 0 .non) = (namesD (.tuple ds)).map V.str := by
      refine List.ext_getElem (by simp [namesD, tItems]) fun i g1 g2 => ?_
      have hi : i < ds.length := by simpa using g1
      obtain ⟨x, y, e, hx, _⟩ := two i hi
      have := rx_str hx (nm i hi)
      rw [List.getElem_map, List.getElem_range, e]
      show x = _
      rw [this, List.getElem_map]
      simp [namesD, tItems, List.getD, hi]
    rw [ez] at D2
    have D3' := s3 _ _ D2
    have ek : (namesD (.tuple ds)).map V.str = ((namesD (.tuple ds)).map fun z => (.inr z : Key)).map kV := by rw [List.map_map]; rfl
    have nl : (namesD (.tuple ds)).length = ds.length := by simp [namesD, tItems]
    refine ⟨_, rfl, D, rfl, .inl ⟨(namesD (.tuple ds)).map fun z => (.inr z : Key), false, by rw [D3', ek], fun k hk => ?_, by rw [List.length_map, nl]; omega, fun H4 s4 => ⟨_, rfl, ?_⟩⟩⟩
    · obtain ⟨z, _, rfl⟩ := List.mem_map.mp hk
      rfl
    have s14 := s13.trans s4
    refine iteB (fun h3 => fl _ s14 ?_) (fun h3 => ?_)
    · have : adj kLt ((namesD (.tuple ds)).map fun z => (.inr z : Key)) = false := by simpa using h3
      unfold partsD
      rw [this]
      simp
    have n3 : adj kLt ((namesD (.tuple ds)).map fun z => (.inr z : Key)) = true := by simpa using h3
    have ndp := adj_nodup n3
    have s24 := s2.trans (s3.trans s4)
    have hta4 := s24 _ _ hta
    have D4 := s4 _ _ D3'
    refine hW3 _ _ ?_
    refine seq_hide fun W4 hW4 => ?_
    refine ⟨_, rfl, ta, rfl, ⟨_, SqT.of hta4⟩, fun D5 hD5 bk5 => ?_⟩
    refine blk_map (fx_tupT ta 2 rows vv e3) (fun i => .bl (withinB (namesD (.tuple ds)) (ds.getD i .none))) (by rw [sizeLine_eq]; omega) hD5 (fun H5 s5 => ⟨SqT.of (s5 _ _ hta4), fun i c e => SqT.of (s5 _ _ (s24 _ _ (e4 i c e)))⟩) (fun i H5 hi s5 QY qy => ?_) (fun H5 s5 d5 => ?_)
    · obtain ⟨x, y, e, _, hy⟩ := two i (by omega)
      have qy' : QY (.bl (eqStr (Str.ofString "") (secondD (ds.getD i .none)) || inStrs (namesD (.tuple ds)) (secondD (ds.getD i .none)))) H5 := qy H5 (Same.refl _)
      rw [e]
      have hy5 := hy.same (s24.trans s5)
      refine ⟨_, rfl, _, _, rfl, hy5, _, rfl, ?_⟩
      refine iteB (fun h4 => ?_) (fun h4 => ?_)
      · rw [h4] at qy'
        exact qy'
      · rw [h4, Bool.false_or] at qy'
        exact ⟨_, rfl, _, rfl, _, D, _, rfl, s5 _ _ D4, hy5, qy'⟩
    refine ⟨D5, (List.range ds.length).map fun i => withinB (namesD (.tuple ds)) (ds.getD i .none), rfl, SqL.of (by rw [d5, List.map_map, e2]; rfl), _, rfl, ?_⟩
    rw [range_all ds .none (withinB (namesD (.tuple ds)))]
    have s15 := s14.trans s5
    refine iteB (fun h4 => fl _ s15 ?_) (fun h4 => ?_)
    · have : ds.all (withinB (namesD (.tuple ds))) = false := by simpa using h4
      unfold partsD
      rw [show (tItems (.tuple ds)).all (withinB (namesD (.tuple ds))) = false from this]
      simp
    have n4 : ds.all (withinB (namesD (.tuple ds))) = true := by simpa using h4
    have ws : ∀ i, i < ds.length → secondD (ds.getD i .none) = .str (strOf (secondD (ds.getD i .none))) ∧ (strOf (secondD (ds.getD i .none)) = Str.ofString "" ∨ strOf (secondD (ds.getD i .none)) ∈ namesD (.tuple ds)) := fun i hi => by
      have := getD_tup n4 hi
      unfold withinB at this
      cases e : secondD (ds.getD i .none) with
      | str z =>
        rw [e] at this
        refine ⟨rfl, ?_⟩
        rcases Bool.or_eq_true_iff.mp this with h | h
        · exact .inl (of_decide_eq_true h)
        · exact .inr (inStrs_iff.mp h)
      | _ =>
        rw [e] at this
        rcases Bool.or_eq_true_iff.mp this with h | h
        · cases h
        · obtain ⟨z, hz⟩ := inStrs_str h
          cases hz
    have pl : (pairsD (.tuple ds)).length = ds.length := by simp [pairsD, tItems]
    have pn : (pairsD (.tuple ds)).map (·.1) = namesD (.tuple ds) := by
      unfold pairsD namesD
      rw [List.map_map]
      rfl
    have pnd : ((pairsD (.tuple ds)).map (·.1)).Nodup := by rw [pn]; exact ndp
    have hta5 := s5 _ _ hta4
    refine hW4 _ _ ?_
    refine seq_hide fun W5 hW5 => ?_
    refine ⟨_, rfl, ta, rfl, ⟨_, SqT.of hta5⟩, fun D6 hD6 bk6 => ?_⟩
    refine blk_invG (fx_tupT ta 2 rows vv e3).y (fun i H6 => Same H5 H6 ∧ H6 D6 = some (.dK (kvsOf ((pairsD (.tuple ds)).take i)))) ⟨Same.upd hD6, upd_same⟩ (fun i H6 H7 p s => ⟨p.1.trans s, s _ _ p.2⟩) (fun i H6 _ p => ⟨SqT.of (p.1 _ _ hta5), fun j c e => SqT.of (p.1 _ _ (s5 _ _ (s24 _ _ (e4 j c e))))⟩) (fun i H6 hi p QY QN qy qn => ?_) (fun H6 p => ?_)
    · have hi' : i < ds.length := by omega
      obtain ⟨x, y, e, hx, hy⟩ := two i hi'
      have ex := rx_str hx (nm i hi')
      have ey := rx_str hy ⟨_, (ws i hi').1⟩
      have hp : i < (pairsD (.tuple ds)).length := by omega
      have eg : (pairsD (.tuple ds))[i] = (strOf (firstD (ds.getD i .none)), strOf (secondD (ds.getD i .none))) := by
        simp [pairsD, tItems, List.getD, hi']
      rw [e]
      subst ex ey
      refine tall_if ⟨_, rfl, _, rfl, _, .inr (strOf (firstD (ds.getD i .none))), p.2, rfl, ?_, ?_⟩
      · rw [kvsOf, List.length_map, List.length_take, sizeLine_eq]
        omega
      · have hn : ∀ q ∈ (pairsD (.tuple ds)).take i, q.1 ≠ ((pairsD (.tuple ds))[i]).1 := fun q hq e => by
          obtain ⟨j, hj, rfl⟩ := List.getElem_of_mem hq
          rw [List.length_take] at hj
          rw [List.getElem_take] at e
          exact List.pairwise_iff_getElem.mp pnd j i (by rw [List.length_map]; omega) (by rw [List.length_map]; omega) (by omega) (by simpa using e)
        have := put_new hn
        rw [eg] at this
        refine qy _ ⟨fun c o e => ?_, ?_⟩
        · rw [upd_ne (ne_of_none e hD6)]
          exact p.1 _ _ e
        · rw [upd_same, List.take_succ, List.getElem?_eq_getElem hp, eg]
          simp only [Option.toList]
          rw [← this]
    have s56 := p.1
    have D6' : H6 D6 = some (.dK (kvsOf (pairsD (.tuple ds)))) := by
      have := p.2
      rwa [e2, ← pl, List.take_length] at this
    have D6n := s56 _ _ (s5 _ _ D4)
    have cl : ∀ x y, lookP (pairsD (.tuple ds)) x = some y → y = Str.ofString "" ∨ lookP (pairsD (.tuple ds)) y ≠ none := fun x y e => by
      obtain ⟨j, hj, ej⟩ := List.getElem_of_mem (look_mem e)
      have hj' : j < ds.length := by omega
      have eg : (pairsD (.tuple ds))[j] = (strOf (firstD (ds.getD j .none)), strOf (secondD (ds.getD j .none))) := by
        simp [pairsD, tItems, List.getD, hj']
      rw [eg] at ej
      have ey : strOf (secondD (ds.getD j .none)) = y := (Prod.mk.inj ej).2
      rcases (ws j hj').2 with h | h
      · exact .inl (ey ▸ h)
      · right
        rw [ey, ← pn] at h
        exact look_none h
    refine hW5 _ _ ?_
    refine ⟨_, rfl, D, rfl, ⟨_, SqL.of D6n⟩, fun D7 hD7 bk7 => ?_⟩
    refine blk_map (fx_list D ((namesD (.tuple ds)).map V.str)) (fun i => .bl (endB (lookP (pairsD (.tuple ds))) (pairsD (.tuple ds)).length ((namesD (.tuple ds)).getD i ⟨#[]⟩))) (by rw [List.length_map, nl, sizeLine_eq]; omega) hD7 (fun H7 s7 => SqL.of (s7 _ _ D6n)) (fun i H7 hi s7 QY qy => ?_) (fun H7 s7 d7 => ?_)
    · rw [List.length_map] at hi
      have ev : ((namesD (.tuple ds)).map V.str).getD i .non = .str ((namesD (.tuple ds)).getD i ⟨#[]⟩) := by simp [List.getD, hi]
      have mz : (namesD (.tuple ds)).getD i ⟨#[]⟩ ∈ (pairsD (.tuple ds)).map (·.1) := by
        rw [pn]
        have : (namesD (.tuple ds)).getD i ⟨#[]⟩ = (namesD (.tuple ds))[i] := by simp [List.getD, hi]
        rw [this]
        exact List.getElem_mem hi
      exact ⟨_, rfl, _, rfl, D6, _, _, (by rw [ev]; rfl), s7 _ _ D6', by omega, cl, look_none mz, qy H7 (Same.refl _)⟩
    · rw [List.length_map] at d7
      refine ⟨D7, (List.range (namesD (.tuple ds)).length).map fun i => endB (lookP (pairsD (.tuple ds))) (pairsD (.tuple ds)).length ((namesD (.tuple ds)).getD i ⟨#[]⟩), rfl, SqL.of (by rw [d7, List.map_map]; rfl), ?_⟩
      rw [range_all (namesD (.tuple ds)) ⟨#[]⟩ (endB (lookP (pairsD (.tuple ds))) (pairsD (.tuple ds)).length)]
      have q' := q H7 (s15.trans (s56.trans s7))
      unfold partsD at q'
      rw [n1, n3, show (tItems (.tuple ds)).all (fun x => nameD (firstD x)) = true from n2, show (tItems (.tuple ds)).all (withinB (namesD (.tuple ds))) = true from n4] at q'
      simpa using q'
end
end K02

set_option maxHeartbeats 4000000
namespace K02
open PySem L2
section
variable {P : Program} {w : World} {K : PySem.W.Frag} {mg : Str → Option Value} {base : Heap} {k_HIGHEST_RANK k_LOWEST_RANK k_MOST_LEAVES k_MOST_LETTERS k_MOST_PARTS k_MOST_RANKS k_MOST_RULES k_MOST_SEATS : Tok}
theorem ok_is_house {f : Addr} {fd : FuncData} (F : Fun K "is_house" "is_house" s_is_house f fd) (T : Txt K mg k_HIGHEST_RANK k_LOWEST_RANK k_MOST_LEAVES k_MOST_LETTERS k_MOST_PARTS k_MOST_RANKS k_MOST_RULES k_MOST_SEATS) (h_is_tuple_of : Has P w K mg base "is_tuple_of" 1 ["thing", "many"] (spM tupN)) (h_are_parts : Has P w K mg base "are_parts" 3 ["thing"] (sp1 partsD)) (h_are_ranks : Has P w K mg base "are_ranks" 5 ["thing", "names"] (spN (fun _ => True) ranksD))
    (h_are_leaves : Has P w K mg base "are_leaves" 5 ["thing", "names"] (spN (fun _ => True) leavesD)) (h_are_rules : Has P w K mg base "are_rules" 5 ["thing", "names"] (spN (fun _ => True) rulesD)) : FnOk P w K mg base CX0 6 f fd ["thing"] (sp1 isHouseD) := by
  refine F.ok sc_is_house (fun vs H Q E h => ?_) (fun cdv A outer s H vs Q E hr h => ?_)
  · obtain ⟨v, d, rfl, _⟩ := A1.ex h
    rfl
  · obtain ⟨v, d, rfl, hd, ok, q⟩ := A1.ex h
    clear h
    refine ⟨_, (pss_cons (ps_if (pt_not (pt_val (pe_fn h_is_tuple_of (hr.mono (by decide)) rfl (pa_cons (pv 0) (pa_cons pe_int pa_nil))))) (pss_one (ps_ret pe_bl)) pss_nil) (pss_cons (ps_asg (pv 0) (pg_tup rfl (pgs_cons (pg_name (i := 1) sc_is_house.nd rfl (Or.inl rfl)) (pgs_cons (pg_name (i := 2) sc_is_house.nd rfl (Or.inl rfl)) (pgs_cons (pg_name (i := 3) sc_is_house.nd rfl (Or.inl rfl)) (pgs_cons (pg_name (i := 4) sc_is_house.nd rfl (Or.inl rfl)) pgs_nil)))))) (pss_cons (ps_if (pt_not (pt_val (pe_fn h_are_parts (hr.mono (by decide)) rfl (pa_cons (pv 1) pa_nil)))) (pss_one (ps_ret pe_bl)) pss_nil) (pss_cons (ps_setLC (i := 5) (T := (.many 2)) (NT := (["name", "within"] : List Str)) (NF := ([] : List Str)) (js := []) (BlkC.ok (N0 := (["thing", "parts", "ranks", "leaves", "rules", "names"] : List Str)) (osc := defScope s_is_house) (by decide +kernel) rfl rfl) (⟨_, _, _, rfl, (.cons ⟨_, rfl⟩ (.cons ⟨_, rfl⟩ .nil)), rfl⟩) rfl (pi_tup (pv 1)) (fun b => ⟨pts_nil, (pv 0)⟩) (by rfl) sc_is_house.nd rfl rfl) (pss_one (ps_ret (pe_and (pe_fn h_are_ranks (hr.mono (by decide)) rfl (pa_cons (pv 2) (pa_cons (pv 5) pa_nil))) (pe_and (pe_fn h_are_leaves (hr.mono (by decide)) rfl (pa_cons (pv 3) (pa_cons (pv 5) pa_nil))) (pe_one (pe_fn h_are_rules (hr.mono (by decide)) rfl (pa_cons (pv 4) (pa_cons (pv 5) pa_nil)))))))))))), ?_⟩
    have fl : ∀ (H' : Hp), Same H H' → isHouseD d = false → Q (.bl false) H' := fun H' s' e => e ▸ q H' s'
    refine seq_hide fun W1 hW1 => ?_
    refine ⟨_, rfl, v, d, 4, rfl, hd, ok, fun H1 s1 => ⟨_, rfl, ?_⟩⟩
    refine iteB (fun h1 => fl _ s1 ?_) (fun h1 => ?_)
    · have h : tupN 4 d = false := by simpa using h1
      unfold isHouseD
      split
      · cases h
      · rfl
    have n1 : tupN 4 d = true := by simpa using h1
    obtain ⟨a, b, c, e, rfl⟩ : ∃ a b c e, d = .tuple [a, b, c, e] := by
      cases d with
      | tuple ds =>
        have hl : ds.length = 4 := by have := of_decide_eq_true n1; omega
        match ds, hl with
        | [a, b, c, e], _ => exact ⟨a, b, c, e, rfl⟩
      | _ => cases n1
    obtain ⟨t, us, rfl, ht, v1, r1, rfl, x1, v2, r2, rfl, x2, v3, r3, rfl, x3, v4, r4, rfl, x4, x5⟩ := hd.same s1
    cases (show r4 = [] from x5)
    have ok' : okD a = true ∧ okD b = true ∧ okD c = true ∧ okD e = true := by
      have := (okD_tup ok).2
      simpa [okDs] using this
    obtain ⟨o1, o2, o3, o4⟩ := ok'
    have eh : isHouseD (.tuple [a, b, c, e]) = (partsD a && (ranksD (namesD a) b && (leavesD (namesD a) c && rulesD (namesD a) e))) := rfl
    refine hW1 _ _ ?_
    refine seq_hide fun W2 hW2 => ?_
    refine ⟨_, rfl, t, _, rfl, SqT.of ht, rfl, _, _, rfl, _, _, rfl, _, _, rfl, _, _, rfl, rfl, ?_⟩
    refine hW2 _ _ ?_
    refine seq_hide fun W3 hW3 => ?_
    refine ⟨_, rfl, v1, a, rfl, x1, o1, fun H2 s2 => ⟨_, rfl, ?_⟩⟩
    have s12 := s1.trans s2
    refine iteB (fun h2 => fl _ s12 ?_) (fun h2 => ?_)
    · have h : partsD a = false := by simpa using h2
      rw [eh, h]
      rfl
    have n2 : partsD a = true := by simpa using h2
    have n2' := n2
    unfold partsD at n2'
    simp only [Bool.and_eq_true] at n2'
    obtain ⟨m1, ⟨m2, m3⟩, m4, m5⟩ := n2'
    obtain ⟨ds, rfl, dl, da⟩ := tups_of m1
    obtain ⟨ta, us, rfl, hta, rx⟩ := x1.same s2
    obtain ⟨rows, vv, e1, e2, e3, e4, e5⟩ := rxs_rows (n := 2) rx da
    subst e1
    have nm : ∀ i, i < ds.length → ∃ z, firstD (ds.getD i .none) = .str z := fun i hi => name_str (getD_tup (f := fun x => nameD (firstD x)) m2 hi)
    refine hW3 _ _ ?_
    refine seq_hide fun W4 hW4 => ?_
    refine ⟨_, rfl, ta, rfl, ⟨_, SqT.of hta⟩, fun D hD bk => ?_⟩
    refine blk_map (fx_tupT ta 2 rows vv e3) (fun i => .str ((namesD (.tuple ds)).getD i ⟨#[]⟩)) (by rw [sizeLine_eq]; omega) hD (fun H3 s3 => ⟨SqT.of (s3 _ _ hta), fun i c e => SqT.of (s3 _ _ (e4 i c e))⟩) (fun i H3 hi s3 QY qy => ?_) (fun H3 s3 d3 => ?_)
    · have hi' : i < ds.length := by omega
      obtain ⟨x, y, e⟩ := two_of (e3 i hi)
      have r := e5 i hi'
      rw [e] at r
      obtain ⟨a1, _, _⟩ := first_second r
      have ex := rx_str a1 (nm i hi')
      have en : (namesD (.tuple ds)).getD i ⟨#[]⟩ = strOf (firstD (ds.getD i .none)) := by simp [namesD, tItems, List.getD, hi']
      have qy' := qy H3 (Same.refl _)
      rw [en, ← ex] at qy'
      rw [e]
      exact ⟨_, rfl, qy'⟩
    have nl : (namesD (.tuple ds)).length = ds.length := by simp [namesD, tItems]
    have D3 : H3 D = some (.lst ((namesD (.tuple ds)).map V.str)) := by
      rw [d3, e2, ← nl]
      congr 1
      congr 1
      refine List.ext_getElem (by simp) fun i g1 g2 => ?_
      have hi : i < (namesD (.tuple ds)).length := by simpa using g2
      simp [List.getD, hi]
    have s13 := s12.trans s3
    have s23 := s2.trans s3
    refine hW4 _ _ ?_
    refine ⟨_, rfl, _, rfl, v2, b, D, _, rfl, x2.same s23, o2, D3, trivial, fun H4 s4 => ⟨_, rfl, ?_⟩⟩
    have s14 := s13.trans s4
    refine iteB (fun h4 => ?_) (fun h4 => fl _ s14 ?_)
    · refine ⟨_, rfl, _, rfl, v3, c, D, _, rfl, x3.same (s23.trans s4), o3, s4 _ _ D3, trivial, fun H5 s5 => ⟨_, rfl, ?_⟩⟩
      have s15 := s14.trans s5
      refine iteB (fun h5 => ?_) (fun h5 => fl _ s15 ?_)
      · refine ⟨_, rfl, _, rfl, v4, e, D, _, rfl, x4.same (s23.trans (s4.trans s5)), o4, (s4.trans s5) _ _ D3, trivial, fun H6 s6 => ?_⟩
        have q' := q H6 (s15.trans s6)
        rw [eh, n2, h4, h5] at q'
        simpa using q'
      · rw [eh, n2, h4, h5]
        rfl
    · rw [eh, n2, h4]
      rfl
structure EmpP (vs : List V) (H : Hp) (Q : VK) : Prop where
  ex : vs = [] ∧ ∀ v H', Same H H' → RX H' (.tuple [.tuple [], .tuple [], .tuple [], .tuple []]) v → Q v H'
def sp_emp : Sp := fun vs H Q _ => EmpP vs H Q
theorem ok_empty_house {f : Addr} {fd : FuncData} (F : Fun K "empty_house" "empty_house" s_empty_house f fd) (T : Txt K mg k_HIGHEST_RANK k_LOWEST_RANK k_MOST_LEAVES k_MOST_LETTERS k_MOST_PARTS k_MOST_RANKS k_MOST_RULES k_MOST_SEATS) : FnOk P w K mg base CX0 1 f fd [] sp_emp := by
  refine F.ok sc_empty_house (fun vs H Q E h => ?_) (fun cdv A outer s H vs Q E hr h => ?_)
  · obtain ⟨rfl, _⟩ := EmpP.ex h
    rfl
  · obtain ⟨rfl, q⟩ := EmpP.ex h
    clear h
    refine ⟨_, (pss_one (ps_ret (pe_tup (pa_cons (pe_tup pa_nil) (pa_cons (pe_tup pa_nil) (pa_cons (pe_tup pa_nil) (pa_cons (pe_tup pa_nil) pa_nil))))))), ?_⟩
    refine ⟨Nat.zero_le _, fun a1 h1 => ⟨Nat.zero_le _, fun a2 h2 => ⟨Nat.zero_le _, fun a3 h3 => ⟨Nat.zero_le _, fun a4 h4 => ⟨by show 4 ≤ sizeLine; decide, fun a5 h5 => ?_⟩⟩⟩⟩⟩
    have c1 := Same.upd (o := .tup []) h1
    have c2 := Same.upd (o := .tup []) h2
    have c3 := Same.upd (o := .tup []) h3
    have c4 := Same.upd (o := .tup []) h4
    have c5 := Same.upd (o := .tup [.ref a1, .ref a2, .ref a3, .ref a4]) h5
    have c45 := c4.trans c5
    have c35 := c3.trans c45
    have c25 := c2.trans c35
    refine q _ _ (c1.trans c25) ⟨a5, _, rfl, upd_same, _, _, rfl, ⟨a1, [], rfl, c25 _ _ upd_same, rfl⟩, _, _, rfl, ⟨a2, [], rfl, c35 _ _ upd_same, rfl⟩, _, _, rfl, ⟨a3, [], rfl, c45 _ _ upd_same, rfl⟩, _, _, rfl, ⟨a4, [], rfl, c5 _ _ upd_same, rfl⟩, rfl⟩
end
end K02

set_option maxHeartbeats 4000000
namespace K02
open PySem L2
theorem bit_lt (b : Bool) : -(2 ^ 64) < (if b = true then (1 : Int) else 0) ∧ (if b = true then (1 : Int) else 0) < 2 ^ 64 := by
  cases b <;> decide
theorem bit_or (b : Bool) : (if b = true then (1 : Int) else 0) = 0 ∨ (if b = true then (1 : Int) else 0) = 1 := by
  cases b <;> decide
/-- the draws' box: at most n draws were taken -/
def Box (H : Hp) (p : Addr) (n : Int) : Prop := ∃ a b c : Int, H p = some (.lst [.int a, .int b, .int c]) ∧ 0 ≤ a ∧ 0 ≤ b ∧ b < 1099511627776 ∧ 0 ≤ c ∧ c ≤ n
theorem Box.mono {H : Hp} {p : Addr} {n m : Int} (h : Box H p n) (hm : n ≤ m) : Box H p m := by
  obtain ⟨a, b, c, h1, h2, h3, h4, h5, h6⟩ := h
  exact ⟨a, b, c, h1, h2, h3, h4, h5, by omega⟩
theorem Box.same {H H' : Hp} {p : Addr} {n : Int} (h : Box H p n) (s : Same H H') : Box H' p n := by
  obtain ⟨a, b, c, h1, r⟩ := h
  exact ⟨a, b, c, s _ _ h1, r⟩
theorem Box.at {H H' : Hp} {p : Addr} {n : Int} (h : Box H p n) (s : H' p = H p) : Box H' p n := by
  obtain ⟨a, b, c, h1, r⟩ := h
  exact ⟨a, b, c, s.trans h1, r⟩
def sp_box (K : PySem.W.Frag) : Sp := fun vs H Q _ => ∃ (a : Addr) (ns : List Int) (k : Int), vs = [.ref a, .int k] ∧ SqL K H a (ns.map V.int) ∧ 0 ≤ k ∧ k ≤ 1000 ∧ ns.length ≤ 1000 ∧ ∀ p H', H p = none → Same H H' → Box H' p 0 → Q (.ref p) H'
def sp_take : Sp := fun vs H Q _ => ∃ (p : Addr) (m n : Int), vs = [.ref p, .int m] ∧ Box H p n ∧ n < 1073741824 ∧ 0 < m ∧ m < 1073741824 ∧ ∀ r H', 0 ≤ r → r < m → Box H' p (n + 1) → (∀ q, q ≠ p → H' q = H q) → Q (.int r) H'
section
variable {P : Program} {w : World} {K : PySem.W.Frag} {mg : Str → Option Value} {base : Heap} {k_HIGHEST_RANK k_LOWEST_RANK k_MOST_LEAVES k_MOST_LETTERS k_MOST_PARTS k_MOST_RANKS k_MOST_RULES k_MOST_SEATS : Tok}
theorem ok_Lbox {f : Addr} {fd : FuncData} (F : Fun K "_law_box" "_law_box" s_Lbox f fd) (T : Txt K mg k_HIGHEST_RANK k_LOWEST_RANK k_MOST_LEAVES k_MOST_LETTERS k_MOST_PARTS k_MOST_RANKS k_MOST_RULES k_MOST_SEATS) : FnOk P w K mg base CX0 1 f fd ["_law_script", "_law_k"] (sp_box K) := by
  refine F.ok sc_Lbox (fun vs H Q E h => ?_) (fun cdv A outer s H vs Q E hr h => ?_)
  · obtain ⟨a, ns, k, rfl, _⟩ := h
    rfl
  · obtain ⟨a, ns, k, rfl, hS, h0, h1, hl, q⟩ := h
    refine ⟨_, (pss_cons (ps_set (i := 2) sc_Lbox.nd rfl (Or.inl rfl) pe_int) (pss_cons (ps_if (pt_cmpR op_lt (pv 1) (pe_callB call_len rfl T.b_len (by decide +kernel) (pa_cons (pv 0) pa_nil)) (nomark _)) (pss_one (ps_set (i := 2) sc_Lbox.nd rfl (Or.inl rfl) (pe_ix ix_list (pv 0) (pv 1) (fun _ _ => rfl)))) pss_nil) (pss_one (ps_ret (pe_lst (pa_cons (pe_op op_mul (pe_callB call_abs rfl T.b_abs (by decide +kernel) (pa_cons (pv 2) pa_nil)) (pe_callTy call_int1 rfl T.b_int (by decide +kernel) (pa_cons (pe_cmpR op_ge (pe_callB call_abs rfl T.b_abs (by decide +kernel) (pa_cons (pv 2) pa_nil)) (pe_op op_pow pe_int pe_int) (nomark _)) pa_nil))) (pa_cons (pe_op op_add (pe_op op_add (pe_op op_mod (pv 2) pe_int) (pe_op op_mul pe_int (pv 1))) pe_int) (pa_cons pe_int pa_nil)))))))), ?_⟩
    refine ⟨_, rfl, _, rfl, _, _, rfl, .inl ⟨_, hS, rfl⟩, _, _, rfl, rfl, _, rfl, ?_⟩
    have fin : ∀ (c d : Int), (d = 0 ∨ d = 1) → ∀ p, H p = none → Q (.ref p) (upd H p (.lst [.int ((if c < 0 then -c else c) * d), .int (c % 2147483629 + 7919 * k + 11), .int 0])) := fun c d hd p hp => by
      refine q p _ hp (Same.upd hp) ⟨_, _, _, upd_same, ?_, ?_, ?_, Int.le_refl _, Int.le_refl _⟩
      · refine Int.mul_nonneg ?_ ?_
        · split <;> omega
        · rcases hd with rfl | rfl <;> decide
      · have := Int.emod_nonneg c (by decide : (2147483629 : Int) ≠ 0)
        omega
      · have := Int.emod_lt_of_pos c (by decide : (0 : Int) < 2147483629)
        omega
    refine iteB (fun hlt => ?_) (fun _ => ?_)
    · have hk : k < (ns.length : Int) := by simpa using of_decide_eq_true hlt
      have hk' : k.toNat < ns.length := by omega
      have e : atI (ns.map V.int) ((k.toNat : Nat) : Int) = some (.int ns[k.toNat]) := atI_nat (by simp [hk'])
      rw [Int.toNat_of_nonneg h0] at e
      refine ⟨_, rfl, _, rfl, a, _, k, _, rfl, rfl, hS, e, ?_⟩
      refine ⟨_, rfl, _, rfl, _, rfl, _, rfl, _, _, rfl, rfl, ⟨by decide, by decide, by decide⟩, _, _, rfl, rfl, .inr ⟨_, rfl, _, _, rfl, rfl, .inr ?_, ?_⟩⟩
      · exact bit_lt _
      · exact ⟨_, rfl, _, _, rfl, rfl, (by show (0 : Int) < 2147483629; decide), _, rfl, _, _, rfl, rfl, .inl ⟨by decide, by decide⟩, _, _, rfl, rfl, _, _, rfl, rfl, (by show 3 ≤ sizeLine; decide), fin _ _ (bit_or _)⟩
    · refine ⟨_, rfl, _, rfl, _, rfl, _, rfl, _, _, rfl, rfl, ⟨by decide, by decide, by decide⟩, _, _, rfl, rfl, .inr ⟨_, rfl, _, _, rfl, rfl, .inr ?_, ?_⟩⟩
      · exact bit_lt _
      · exact ⟨_, rfl, _, _, rfl, rfl, (by show (0 : Int) < 2147483629; decide), _, rfl, _, _, rfl, rfl, .inl ⟨by decide, by decide⟩, _, _, rfl, rfl, _, _, rfl, rfl, (by show 3 ≤ sizeLine; decide), fin _ _ (bit_or _)⟩
theorem ok_Ltake {f : Addr} {fd : FuncData} (F : Fun K "_law_take" "_law_take" s_Ltake f fd) (T : Txt K mg k_HIGHEST_RANK k_LOWEST_RANK k_MOST_LEAVES k_MOST_LETTERS k_MOST_PARTS k_MOST_RANKS k_MOST_RULES k_MOST_SEATS) : FnOk P w K mg base CX0 1 f fd ["_law_box_here", "_law_many_here"] sp_take := by
  refine F.ok sc_Ltake (fun vs H Q E h => ?_) (fun cdv A outer s H vs Q E hr h => ?_)
  · obtain ⟨p, m, n, rfl, _⟩ := h
    rfl
  · obtain ⟨p, m, n, rfl, ⟨a, b, c, hp, ha, hb, hb2, hc, hcn⟩, hn, hm, hm2, q⟩ := h
    refine ⟨_, (pss_cons (ps_if (pt_cmpR op_gt (pe_ix ix_list (pv 0) pe_int (fun _ _ => rfl)) pe_int (nomark _)) (pss_cons (ps_set (i := 2) sc_Ltake.nd rfl (Or.inl rfl) (pe_op op_mod (pe_ix ix_list (pv 0) pe_int (fun _ _ => rfl)) (pv 1))) (pss_cons (ps_asg (pe_op op_fdiv (pe_ix ix_list (pv 0) pe_int (fun _ _ => rfl)) (pv 1)) (pg_sub (pv 0) pe_int set_list)) (pss_one (ps_ret (pv 2))))) pss_nil) (pss_cons (ps_asg (pe_op op_add (pe_ix ix_list (pv 0) pe_int (fun _ _ => rfl)) pe_int) (pg_sub (pv 0) pe_int set_list)) (pss_cons (ps_set (i := 3) sc_Ltake.nd rfl (Or.inl rfl) (pe_op op_mod (pe_op op_pow (pe_op op_add (pe_ix ix_list (pv 0) pe_int (fun _ _ => rfl)) (pe_op op_mul pe_int (pe_ix ix_list (pv 0) pe_int (fun _ _ => rfl)))) pe_int) pe_int)) (pss_one (ps_ret (pe_op op_mod (pe_op op_fdiv (pe_op op_mod (pe_op op_add (pe_op op_mul (pv 3) (pe_op op_add (pe_op op_mod (pv 3) pe_int) pe_int)) (pe_op op_mul (pe_ix ix_list (pv 0) pe_int (fun _ _ => rfl)) pe_int)) pe_int) pe_int) (pv 1))))))), ?_⟩
    have S := SqL.of (K := K) hp
    refine ⟨_, rfl, p, _, _, _, rfl, rfl, S, rfl, _, _, rfl, rfl, _, rfl, ?_⟩
    refine iteB (fun h0 => ?_) (fun h0 => ?_)
    · refine ⟨_, rfl, p, _, _, _, rfl, rfl, S, rfl, _, rfl, _, _, rfl, rfl, hm, ?_⟩
      refine ⟨_, rfl, p, _, _, _, rfl, rfl, S, rfl, _, rfl, _, _, rfl, rfl, ⟨hm, hm2⟩, _, rfl, p, _, _, _, rfl, rfl, hp, rfl, _, rfl, ?_⟩
      refine q _ _ (Int.emod_nonneg _ (by omega)) (Int.emod_lt_of_pos _ hm) ⟨_, b, c, upd_same, Int.ediv_nonneg ha (by omega), hb, hb2, hc, by omega⟩ fun x hx => upd_ne hx
    · refine ⟨_, rfl, p, _, _, _, rfl, rfl, S, rfl, _, _, rfl, rfl, _, rfl, p, _, _, _, rfl, rfl, hp, rfl, ?_⟩
      have S2 := SqL.of (K := K) (show (upd H p (.lst [.int a, .int b, .int (c + 1)])) p = some (.lst [.int a, .int b, .int (c + 1)]) from upd_same)
      refine ⟨_, rfl, p, _, _, _, rfl, rfl, S2, rfl, _, rfl, p, _, _, _, rfl, rfl, S2, rfl, _, _, rfl, rfl, .inl ⟨by decide, by decide⟩, _, _, rfl, rfl, _, _, rfl, rfl, ⟨by decide, by decide, ?_⟩, _, _, rfl, rfl, (by show (0 : Int) < 2147483647; decide), ?_⟩
      · omega
      · have o1 := Int.emod_nonneg ((b + 39373 * (c + 1)) ^ (5 : Int).toNat) (by decide : (2147483647 : Int) ≠ 0)
        have o2 := Int.emod_lt_of_pos ((b + 39373 * (c + 1)) ^ (5 : Int).toNat) (by decide : (0 : Int) < 2147483647)
        refine ⟨_, rfl, _, rfl, _, _, rfl, rfl, (by show (0 : Int) < 40009; decide), _, _, rfl, rfl, _, _, rfl, rfl, .inl ⟨by omega, by omega⟩, _, rfl, p, _, _, _, rfl, rfl, S2, rfl, _, _, rfl, rfl, .inr ⟨by decide, by decide⟩, _, _, rfl, rfl, _, _, rfl, rfl, (by show (0 : Int) < 2147483629; decide), _, _, rfl, rfl, ⟨by decide, by decide⟩, _, rfl, _, _, rfl, rfl, hm, ?_⟩
        refine q _ _ (Int.emod_nonneg _ (by omega)) (Int.emod_lt_of_pos _ hm) ⟨a, b, c + 1, upd_same, ha, hb, hb2, by omega, by omega⟩ fun x hx => upd_ne hx
end
abbrev abc : Str := Str.ofString "abcdefghijklmnopqrstuvwxyz"
theorem abc_at : ∀ i, i < 26 → abc.cps.getD i 0 = 97 + i := by decide +kernel
theorem abc_size : abc.cps.size = 26 := by decide +kernel
theorem abc_ix {r : Int} (r0 : 0 ≤ r) (r1 : r < 26) : atI abc.cps.toList r = some (97 + r.toNat) := by
  have h : ∀ k : Nat, k < 26 → atI abc.cps.toList (k : Int) = some (97 + k) := by decide +kernel
  have := h r.toNat (by omega)
  rwa [Int.toNat_of_nonneg r0] at this
theorem fold_signs : ∀ (l : List Nat) (a : Array Nat), ((l.map fun c => (⟨#[c]⟩ : Str)).foldl (fun acc p => acc ++ (Str.ofString "").cps ++ p.cps) a).toList = a.toList ++ l
  | [], a => by simp
  | c :: r, a => by
    simp only [List.map_cons, List.foldl_cons]
    rw [fold_signs r]
    have e : (Str.ofString "").cps = #[] := by decide +kernel
    rw [e]
    simp
theorem join_signs : ∀ (l : List Nat), (Txt.join (Str.ofString "") (l.map fun c => (⟨#[c]⟩ : Str))).cps.toList = l
  | [] => by decide +kernel
  | c :: r => by
    show (((r.map fun c => (⟨#[c]⟩ : Str))).foldl (fun acc p => acc ++ (Str.ofString "").cps ++ p.cps) #[c]).toList = c :: r
    rw [fold_signs r]
    rfl
theorem one_sum : ∀ ys : List Nat, (ys.map ((fun x : Str => x.length) ∘ fun c => (⟨#[c]⟩ : Str))).sum = ys.length
  | [] => rfl
  | c :: r => by
    rw [List.map_cons, List.sum_cons, one_sum r, List.length_cons]
    show 1 + r.length = r.length + 1
    omega
theorem name_join {l : List Nat} (h1 : 1 ≤ l.length) (h2 : l.length ≤ 8) (h3 : ∀ c ∈ l, 97 ≤ c ∧ c ≤ 122) : nameB (Txt.join (Str.ofString "") (l.map fun c => (⟨#[c]⟩ : Str))) = true := by
  have e := join_signs l
  have e2 : (Txt.join (Str.ofString "") (l.map fun c => (⟨#[c]⟩ : Str))).length = l.length := by
    show (Txt.join (Str.ofString "") (l.map fun c => (⟨#[c]⟩ : Str))).cps.size = _
    rw [show l.length = (Txt.join (Str.ofString "") (l.map fun c => (⟨#[c]⟩ : Str))).cps.toList.length from congrArg List.length e.symm]
    simp
  unfold nameB azB
  rw [e, e2]
  simp only [Bool.and_eq_true, decide_eq_true_eq, List.all_eq_true]
  exact ⟨⟨h1, h2⟩, h3⟩
def Asc (z : Str) : Prop := ∀ c ∈ z.cps.toList, c < 128
/-- a small text -/
def Sm (n : Nat) (z : Str) : Prop := Asc z ∧ z.length ≤ n
theorem Sm.mono {n m : Nat} {z : Str} (h : Sm n z) (hm : n ≤ m) : Sm m z := ⟨h.1, Nat.le_trans h.2 hm⟩
theorem Sm.line {n : Nat} {z : Str} (h : Sm n z) (hn : n ≤ 100000 := by omega) : z.length ≤ sizeLine := le_line (m := 100000) (Nat.le_trans h.2 hn)
theorem Sm.slice {n : Nat} {z : Str} (h : Sm n z) (l u : Option Int) : Sm n (Txt.slice z l u) := by
  refine ⟨fun c hc => ?_, Nat.le_trans (Txt.slice_le z l u) h.2⟩
  unfold Txt.slice at hc
  split at hc
  · exact h.1 c hc
  · have hc' : c ∈ ((Builtin.Str.strSliceIndices l u 1 z.length).filterMap (z.cps[·]?)) := by simpa using hc
    obtain ⟨i, _, e⟩ := List.mem_filterMap.mp hc'
    refine h.1 c ?_
    have := Array.mem_of_getElem? e
    simpa using this
theorem Sm.name {z : Str} (h : nameB z = true) : Sm 8 z := by
  unfold nameB azB at h
  simp only [Bool.and_eq_true, decide_eq_true_eq, List.all_eq_true] at h
  exact ⟨fun c hc => by have := h.2 c hc; omega, h.1.2⟩
theorem Ext.of_take {p : Addr} {H H' : Hp} (h : ∀ q, q ≠ p → H' q = H q) : Ext p H H' := fun b o e hb => (h b hb).trans e
theorem Box.ne {H : Hp} {p q : Addr} {n : Int} (h : Box H p n) (hq : H q = none) : q ≠ p := by
  obtain ⟨a, b, c, h1, _⟩ := h
  exact (ne_of_none h1 hq).symm
/-- all but the box p of H is in H' as it was -/
theorem Ext.to_same {p : Addr} {H0 H H' : Hp} (hp : H0 p = none) (s : Same H0 H) (x : Ext p H H') : Same H0 H' := fun b o e => x b o (s b o e) (ne_of_none e hp)
theorem idx7 (n : Nat) : (Builtin.Str.strSliceIndices none (some 7) 1 n).length ≤ 7 := by
  unfold Builtin.Str.strSliceIndices sliceRange
  simp only [show (1 : Int) > 0 by decide, if_true, List.length_map, List.length_range]
  split <;> (try split) <;> (try split) <;> (try simp only [Int.ediv_one]) <;> omega
theorem cut7_len (z : Str) : (Txt.slice z none (some 7)).length ≤ 7 := by
  unfold Txt.slice
  split
  · rename_i h
    have h2 : (Builtin.Str.strSliceIndices none (some 7) 1 z.length).length = z.length := by simpa using h
    have := idx7 z.length
    omega
  · show (((Builtin.Str.strSliceIndices none (some 7) 1 z.length).filterMap (z.cps[·]?)).toArray).size ≤ 7
    rw [List.size_toArray]
    exact Nat.le_trans (List.length_filterMap_le _ _) (idx7 _)
theorem cut_mem {z : Str} {l u : Option Int} {c : Nat} (hc : c ∈ (Txt.slice z l u).cps.toList) : c ∈ z.cps.toList := by
  unfold Txt.slice at hc
  split at hc
  · exact hc
  · have hc' : c ∈ ((Builtin.Str.strSliceIndices l u 1 z.length).filterMap (z.cps[·]?)) := by simpa using hc
    obtain ⟨i, _, e⟩ := List.mem_filterMap.mp hc'
    have := Array.mem_of_getElem? e
    simpa using this
def cut7 (z : Str) (k : Nat) : Str := Txt.slice z none (some 7) ++ (⟨#[97 + k]⟩ : Str)
theorem cut7_list (z : Str) (k : Nat) : (cut7 z k).cps.toList = (Txt.slice z none (some 7)).cps.toList ++ [97 + k] := by
  show ((Txt.slice z none (some 7)).cps ++ #[97 + k]).toList = _
  simp
theorem cut7_name {z : Str} (h : nameB z = true) {k : Nat} (hk : k < 26) : nameB (cut7 z k) = true := by
  have hl : (cut7 z k).length = (Txt.slice z none (some 7)).length + 1 := by
    show ((Txt.slice z none (some 7)).cps ++ #[97 + k]).size = _
    rw [Array.size_append]
    rfl
  have := cut7_len z
  unfold nameB azB at h ⊢
  simp only [Bool.and_eq_true, decide_eq_true_eq, List.all_eq_true] at h ⊢
  refine ⟨⟨by omega, by omega⟩, fun c hc => ?_⟩
  rw [cut7_list] at hc
  rcases List.mem_append.mp hc with hc | hc
  · exact h.2 c (cut_mem hc)
  · rw [List.mem_singleton.mp hc]
    omega
theorem cut7_inj {z : Str} {i j : Nat} (h : cut7 z i = cut7 z j) : i = j := by
  have e : (cut7 z i).cps.toList = (cut7 z j).cps.toList := by rw [h]
  rw [cut7_list, cut7_list] at e
  have := List.append_cancel_left e
  simp at this
  exact this
theorem nodup_le {α : Type} [DecidableEq α] : ∀ {l m : List α}, l.Nodup → (∀ x ∈ l, x ∈ m) → l.length ≤ m.length
  | [], _, _, _ => Nat.zero_le _
  | a :: l, m, hn, hs => by
    have hn' := List.nodup_cons.mp hn
    have ha := hs a List.mem_cons_self
    have ih := nodup_le (m := m.erase a) hn'.2 fun x hx => (List.mem_erase_of_ne (fun (e : x = a) => hn'.1 (by rw [← e]; exact hx))).mpr (hs x (List.mem_cons_of_mem _ hx))
    rw [List.length_erase_of_mem ha] at ih
    have : 0 < m.length := List.length_pos_of_mem ha
    rw [List.length_cons]
    omega
/-- one of the bent ones is new -/
theorem some_new (z : Str) {zs : List Str} (h : zs.length < 26) : ∃ k, k < 26 ∧ cut7 z k ∉ zs := by
  by_cases hx : ∃ k, k < 26 ∧ cut7 z k ∉ zs
  · exact hx
  · have all : ∀ x ∈ (List.range 26).map (cut7 z), x ∈ zs := fun x hm => by
      obtain ⟨k, hk, rfl⟩ := List.mem_map.mp hm
      by_cases hm2 : cut7 z k ∈ zs
      · exact hm2
      · exact absurd ⟨k, List.mem_range.mp hk, hm2⟩ hx
    have nd : ((List.range 26).map (cut7 z)).Nodup := by
      rw [List.Nodup, List.pairwise_map]
      exact List.Pairwise.imp (fun {a b} hab e => hab (cut7_inj e)) (List.nodup_range (n := 26))
    have := nodup_le nd all
    simp at this
    omega
def Names (zs : List Str) : Prop := zs.Nodup ∧ ∀ z ∈ zs, nameB z = true
theorem inV_strs (z : Str) (zs : List Str) : inV (.str z) (zs.map V.str) = decide (z ∈ zs) := by
  unfold inV
  rw [Bool.eq_iff_iff]
  simp [List.any_eq_true, eqV]
end K02

set_option maxHeartbeats 4000000
namespace K02
open PySem L2
/-! ### names -/
structure NamesP (vs : List V) (H : Hp) (Q : VK) : Prop where
  ex : ∃ (p : Addr) (m n : Int), vs = [.ref p, .int m] ∧ Box H p n ∧ n < 1000000 ∧ 0 ≤ m ∧ m ≤ 20 ∧ ∀ l zs H', H l = none → Names zs → zs.length = m.toNat → H' l = some (.lst (zs.map V.str)) → Box H' p (n + 13 * m) → Ext p H H' → Q (.ref l) H'
def sp_names : Sp := fun vs H Q _ => NamesP vs H Q
theorem flat_strs (zs : List Str) : (zs.map V.str).all flatV = true := by
  rw [List.all_map, List.all_eq_true]
  intro _ _
  rfl
theorem _root_.L2.Ext.laid {p q : Addr} {H H1 : Hp} {o : HO} (x : Ext p H H1) (hq : H1 q = none) : Ext p H (upd H1 q o) := x.trans (Same.upd hq).ext
theorem _root_.L2.Ext.took {p : Addr} {H H1 H2 : Hp} (x : Ext p H H1) (k : ∀ q, q ≠ p → H2 q = H1 q) : Ext p H H2 := x.trans (Ext.of_take k)
theorem three_at (a b c : V) {r : Int} (r0 : 0 ≤ r) (r1 : r < 3) : ∃ v, atI [a, b, c] r = some v ∧ (v = a ∨ v = b ∨ v = c) := by
  have : r = 0 ∨ r = 1 ∨ r = 2 := by omega
  rcases this with rfl | rfl | rfl
  · exact ⟨a, rfl, .inl rfl⟩
  · exact ⟨b, rfl, .inr (.inl rfl)⟩
  · exact ⟨c, rfl, .inr (.inr rfl)⟩
/-- found.append([one for one in [name] + [..] if one not in found][0]) -/
def rNew (K : PySem.W.Frag) : TS := tDrop (tBM K "list" rAppend (tVar 3) (tCons (tOp (rIxL K) (tLC K (iList K (tOp rCat (tLst (tCons (tVar 6) tNil)) (tLC K (iStr (tVar 2)) .one (fun _ => tAll) (fun _ => tOp (fun x y H Q => ∃ i j, x = .str i ∧ y = .str j ∧ i.length + j.length ≤ sizeLine ∧ Q (.str (i ++ j)) H)
  (tSl (fun x lo hi H Q => ∃ z, x = .str z ∧ z.length ≤ sizeLine ∧ Q (.str (Txt.slice z lo hi)) H) (tVar 1) tNoPart (tPart (tC (.int 7)))) (tVar 0)) [6]))) .one (fun _ => tTest (tOp (rIn K true) (tVar 0) (tVar 1))) (fun _ => tVar 0) [3]) (tC (.int 0))) tNil))
theorem new_one {K : PySem.W.Frag} {D : Ends} {H : Hp} {a0 a1 k v5 : Option V} {L : Addr} {zs : List Str} {z : Str} (nz : nameB z = true) (hz : zs.length < 26) (hL : H L = some (.lst (zs.map V.str)))
    (q : ∀ z' H', nameB z' = true → z' ∉ zs → H' L = some (.lst ((zs ++ [z']).map V.str)) → Ext L H H' → D.nx [a0, a1, some (.str abc), some (.ref L), k, v5, some (.str z)] H') : rNew K D [a0, a1, some (.str abc), some (.ref L), k, v5, some (.str z)] H := by
  have sz := (Sm.name nz).line (by decide)
  refine ⟨_, rfl, .inl ⟨rfl, _, SqL.of hL⟩, ?_⟩
  refine ⟨_, rfl, by show 1 ≤ sizeLine; decide, fun l1 hl1 => ?_⟩
  refine ⟨_, rfl, abc, rfl, fun D1 hD1 bk => ?_⟩
  refine blk_map (fx_str abc) (fun i => .str (cut7 z i)) (by rw [abc_size]; decide) hD1 (fun _ _ => trivial) (fun i H2 hi s2 QY qy => ?_) (fun H2 s2 d2 => ?_)
  · rw [abc_size] at hi
    refine ⟨_, rfl, _, rfl, z, rfl, sz, _, rfl, _, _, rfl, rfl, ?_, ?_⟩
    · have := cut7_len z
      rw [sizeLine_eq]
      show (Txt.slice z none (some 7)).length + 1 ≤ _
      omega
    · have := qy H2 (Same.refl _)
      show QY (.str (Txt.slice z none (some 7) ++ (⟨#[abc.cps.getD i 0]⟩ : Str))) H2
      rw [abc_at i hi]
      exact this
  · rw [abc_size] at d2
    have e2 : ((List.range 26).map fun i => V.str (cut7 z i)) = ((List.range 26).map (cut7 z)).map V.str := by rw [List.map_map]; rfl
    rw [e2] at d2
    have l12 : H2 l1 = some (.lst [.str z]) := s2 _ _ upd_same
    refine ⟨l1, D1, _, _, rfl, rfl, l12, d2, by rw [List.length_map, List.length_map, List.length_range, sizeLine_eq]; show 1 + 26 ≤ 16777216; decide, fun l2 hl2 => ?_⟩
    generalize hcs : z :: (List.range 26).map (cut7 z) = cs
    have ecs : ([V.str z] ++ ((List.range 26).map (cut7 z)).map V.str) = cs.map V.str := by rw [← hcs]; rfl
    rw [ecs]
    have lcs : cs.length = 27 := by rw [← hcs]; simp
    have s12 : Same H H2 := (Same.upd hl1).trans s2
    have L2 : (upd H2 l2 (.lst (cs.map V.str))) L = some (.lst (zs.map V.str)) := Same.upd hl2 _ _ (s12 _ _ hL)
    refine ⟨l2, rfl, ⟨_, SqL.of upd_same⟩, fun D2 hD2 bk2 => ?_⟩
    refine blk_pure (fx_list l2 (cs.map V.str)) (fun i => decide (cs.getD i ⟨#[]⟩ ∉ zs)) (fun i => .str (cs.getD i ⟨#[]⟩)) (by rw [List.length_map, lcs]; decide) hD2 (fun H3 s3 => SqL.of (s3 _ _ upd_same)) (fun i H3 hi s3 QY QN qy qn => ?_) (fun H3 s3 d3 => ?_)
    · rw [List.length_map] at hi
      have ei : (cs.map V.str).getD i .non = .str (cs.getD i ⟨#[]⟩) := by simp [List.getD, hi]
      refine ⟨_, rfl, _, rfl, L, zs.map V.str, rfl, .inl (SqL.of (s3 _ _ L2)), ?_, flat_strs zs, _, rfl, ?_⟩
      · rw [ei]
        rfl
      · rw [ei, inV_strs]
        have qy' : decide (cs.getD i ⟨#[]⟩ ∉ zs) = true → ∀ H4, Same H3 H4 → QY (.str (cs.getD i ⟨#[]⟩)) H4 := qy
        have qn' : decide (cs.getD i ⟨#[]⟩ ∉ zs) = false → ∀ H4, Same H3 H4 → QN H4 := qn
        refine iteB (fun hb => ?_) (fun hb => ?_)
        · refine ⟨_, rfl, ?_⟩
          refine qy' ?_ H3 (Same.refl _)
          simpa using hb
        · refine qn' ?_ H3 (Same.refl _)
          simpa using hb
    · rw [List.length_map, lcs] at d3
      obtain ⟨k0, hk0, hk1⟩ := some_new z hz
      have ne : (List.range 27).filter (fun i => decide (cs.getD i ⟨#[]⟩ ∉ zs)) ≠ [] := fun e => by
        have hm : k0 + 1 ∈ (List.range 27).filter (fun i => decide (cs.getD i ⟨#[]⟩ ∉ zs)) := by
          refine List.mem_filter.mpr ⟨List.mem_range.mpr (by omega), ?_⟩
          have : cs.getD (k0 + 1) ⟨#[]⟩ = cut7 z k0 := by
            rw [← hcs]
            simp [List.getD, hk0]
          rw [this]
          exact decide_eq_true hk1
        rw [e] at hm
        cases hm
      cases hf : (List.range 27).filter (fun i => decide (cs.getD i ⟨#[]⟩ ∉ zs)) with
      | nil => exact absurd hf ne
      | cons j rest =>
        rw [hf] at d3
        have hj : j ∈ (List.range 27).filter (fun i => decide (cs.getD i ⟨#[]⟩ ∉ zs)) := by rw [hf]; exact List.mem_cons_self
        obtain ⟨hj1, hj2⟩ := List.mem_filter.mp hj
        have hj3 := List.mem_range.mp hj1
        have nn : nameB (cs.getD j ⟨#[]⟩) = true := by
          rw [← hcs]
          cases j with
          | zero => exact nz
          | succ j =>
            have : (z :: (List.range 26).map (cut7 z)).getD (j + 1) ⟨#[]⟩ = cut7 z j := by
              have : j < 26 := by omega
              simp [List.getD, this]
            rw [this]
            exact cut7_name nz (by omega)
        refine ⟨D2, _, 0, _, rfl, rfl, SqL.of d3, (show atI _ ((0 : Nat) : Int) = _ from atI_nat rfl), ?_⟩
        have L3 := s3 _ _ L2
        refine ⟨L, _, _, rfl, rfl, L3, by rw [List.length_map, sizeLine_eq]; omega, ?_⟩
        refine q _ _ nn (of_decide_eq_true hj2) ?_ (fun b o e hb => ?_)
        · rw [upd_same, List.map_append]
          rfl
        · rw [upd_ne hb]
          exact s3 _ _ (Same.upd hl2 _ _ (s12 _ _ e))
section
variable {P : Program} {w : World} {K : PySem.W.Frag} {mg : Str → Option Value} {base : Heap} {k_HIGHEST_RANK k_LOWEST_RANK k_MOST_LEAVES k_MOST_LETTERS k_MOST_PARTS k_MOST_RANKS k_MOST_RULES k_MOST_SEATS : Tok}
theorem ok_Lnames {f : Addr} {fd : FuncData} (F : Fun K "_law_names" "_law_names" s_Lnames f fd) (T : Txt K mg k_HIGHEST_RANK k_LOWEST_RANK k_MOST_LEAVES k_MOST_LETTERS k_MOST_PARTS k_MOST_RANKS k_MOST_RULES k_MOST_SEATS) (h_Ltake : Has P w K mg base "_law_take" 1 ["_law_box_here", "_law_many_here"] sp_take) : FnOk P w K mg base CX0 2 f fd ["_law_box_here", "_law_many_here"] sp_names := by
  refine F.ok sc_Lnames (fun vs H Q E h => ?_) (fun cdv A outer s H vs Q E hr h => ?_)
  · obtain ⟨p, m, n, rfl, _⟩ := h.ex
    rfl
  · obtain ⟨p, m, n, rfl, hb, hn, m0, m1, q⟩ := h.ex
    clear h
    refine ⟨_, (pss_cons (ps_set (i := 2) sc_Lnames.nd rfl (Or.inr rfl) pe_str) (pss_cons (ps_set (i := 3) sc_Lnames.nd rfl (Or.inr rfl) (pe_lst pa_nil)) (pss_cons (ps_for PassesOwn.never rfl (pi_range1 rfl T.b_range (pa_cons (pv 1) pa_nil)) (pg_name (i := 4) sc_Lnames.nd rfl (Or.inl rfl)) (pss_cons (ps_set (i := 5) sc_Lnames.nd rfl (Or.inl rfl) (pe_ix ix_list (pe_lst (pa_cons pe_int (pa_cons pe_int (pa_cons pe_int pa_nil)))) (pe_fn h_Ltake (hr.mono (by decide)) rfl (pa_cons (pv 0) (pa_cons pe_int pa_nil))) (fun _ _ => rfl))) (pss_cons (ps_set (i := 6) sc_Lnames.nd rfl (Or.inr rfl) (pe_bm PySem.F.plainAttrs_str PySem.F.slot_str_join PySem.F.type_str_join (MtM.r mt_join) pe_str (pa_cons (pe_lc (T := .one) (NT := (["_law_j"] : List Str)) (NF := (["_law_letters", "_law_box_here"] : List Str)) (js := [2, 0]) (BlkC.ok (N0 := (["_law_box_here", "_law_many_here", "_law_letters", "_law_found", "_law_k", "_law_size", "_law_name"] : List Str)) (osc := defScope s_Lnames) (by decide +kernel) rfl rfl) (⟨_, ⟨_, rfl⟩, rfl⟩) rfl (pi_range1 rfl T.b_range (pa_cons (pv 5) pa_nil)) (fun b => ⟨pts_nil, (pe_ix ix_str (pv 1) (pe_fn h_Ltake (hr.mono (by decide)) rfl (pa_cons (pv 2) (pa_cons pe_int pa_nil))) (fun _ _ => rfl))⟩)) pa_nil))) (pss_cons (ps_if (PW.pt (pw_and (pt_cmpR op_eq (pe_fn h_Ltake (hr.mono (by decide)) rfl (pa_cons (pv 0) (pa_cons pe_int pa_nil))) pe_int (nomark _)) (pw_and1 (pt_cmpR (op_ne_nil hr.units0) (pv 3) (pe_lst pa_nil) (nomark _))))) (pss_one (ps_set (i := 6) sc_Lnames.nd rfl (Or.inr rfl) (pe_op op_add_str (pe_slice sl_str (pe_ix ix_list (pv 3) (pe_fn h_Ltake (hr.mono (by decide)) rfl (pa_cons (pv 0) (pa_cons (pe_callB call_len rfl T.b_len (by decide +kernel) (pa_cons (pv 3) pa_nil)) pa_nil))) (fun _ _ => rfl)) po_none (po_some pe_int)) (pe_ix ix_str (pv 2) (pe_fn h_Ltake (hr.mono (by decide)) rfl (pa_cons (pv 0) (pa_cons pe_int pa_nil))) (fun _ _ => rfl))))) pss_nil) (pss_one (ps_expr (pe_bm PySem.F.plainAttrs_list PySem.F.slot_list_append PySem.F.type_list_append (MtM.r mt_append) (pv 3) (pa_cons (pe_ix ix_list (pe_lc (T := .one) (NT := (["_law_one"] : List Str)) (NF := (["_law_found"] : List Str)) (js := [3]) (BlkC.ok (N0 := (["_law_box_here", "_law_many_here", "_law_letters", "_law_found", "_law_k", "_law_size", "_law_name"] : List Str)) (osc := defScope s_Lnames) (by decide +kernel) rfl rfl) (⟨_, ⟨_, rfl⟩, rfl⟩) rfl (pi_list (pe_op op_cat (pe_lst (pa_cons (pv 6) pa_nil)) (pe_lc (T := .one) (NT := (["_law_one"] : List Str)) (NF := (["_law_name"] : List Str)) (js := [6]) (BlkC.ok (N0 := (["_law_box_here", "_law_many_here", "_law_letters", "_law_found", "_law_k", "_law_size", "_law_name"] : List Str)) (osc := defScope s_Lnames) (by decide +kernel) rfl rfl) (⟨_, ⟨_, rfl⟩, rfl⟩) rfl (pi_str (pv 2)) (fun b => ⟨pts_nil, (pe_op op_add_str (pe_slice sl_str (pv 1) po_none (po_some pe_int)) (pv 0))⟩)))) (fun b => ⟨(pts_one (pt_cmpR op_notIn_seq (pv 0) (pv 1) (by with_unfolding_all rfl))), (pv 0)⟩)) pe_int (fun _ _ => rfl)) pa_nil)))))))) (pss_one (ps_ret (pv 3)))))), ?_⟩
    refine ⟨Nat.zero_le _, fun L hL => ?_⟩
    have Lp := hb.ne hL
    refine ⟨_, rfl, m, rfl, by omega, by omega, for_range (fun i σ H' => ∃ v4 v5 v6 zs, σ = [some (.ref p), some (.int m), some (.str abc), some (.ref L), v4, v5, v6] ∧ Box H' p (n + 13 * i) ∧ Ext p H H' ∧ H' L = some (.lst (zs.map V.str)) ∧ zs.length = i ∧ Names zs)
      ⟨_, _, _, [], rfl, (hb.same (Same.upd hL)).mono (by omega), (Ext.refl p H).laid hL, upd_same, rfl, List.nodup_nil, by simp⟩ ?_ ?_⟩
    · rintro i σ H1 hi ⟨v4, v5, v6, zs, rfl, b1, x1, l1, z1, nm1⟩
      refine seq_hide fun Z1 hZ1 => ?_
      refine ⟨by show 3 ≤ sizeLine; decide, fun l hl => ?_⟩
      have lp := b1.ne hl
      refine ⟨_, rfl, p, 3, _, rfl, b1.same (Same.upd hl), by omega, by decide, by decide, fun r H2 r0 r1 b2 k2 => ?_⟩
      have l2 : H2 l = some (.lst [.int 1, .int 8, .int 2]) := (k2 l lp).trans upd_same
      obtain ⟨v, hv, hv3⟩ := three_at (.int 1) (.int 8) (.int 2) r0 r1
      obtain ⟨sz, rfl, s0, s1⟩ : ∃ sz : Int, v = .int sz ∧ 1 ≤ sz ∧ sz ≤ 8 := by
        rcases hv3 with rfl | rfl | rfl
        · exact ⟨1, rfl, by decide, by decide⟩
        · exact ⟨8, rfl, by decide, by decide⟩
        · exact ⟨2, rfl, by decide, by decide⟩
      have x2 : Ext p H1 H2 := ((Ext.refl p H1).laid hl).took k2
      refine ⟨l, _, _, _, rfl, rfl, SqL.of l2, hv, ?_⟩
      refine hZ1 _ _ ?_
      refine seq_hide fun Z2 hZ2 => ?_
      refine ⟨rfl, _, rfl, sz, rfl, by omega, by omega, fun D hD bk => ?_⟩
      have hDp := b2.ne hD
      refine blk_invm (fx_range 0 sz.toNat) (fun j acc H3 => Box H3 p (n + 13 * i + 1 + j) ∧ Ext p H1 H3 ∧ H3 D = some (.lst acc) ∧ ∃ ys : List Nat, acc = ys.map (fun c => V.str ⟨#[c]⟩) ∧ ys.length = j ∧ ∀ c ∈ ys, 97 ≤ c ∧ c ≤ 122)
        ⟨(b2.same (Same.upd hD)).mono (by omega), x2.laid hD, upd_same, [], rfl, rfl, by simp⟩ (fun _ _ _ _ _ => trivial) (fun j acc H3 _ h => ⟨h.2.2.1, ?_⟩) (by rw [sizeLine_eq]; omega) (fun j acc H3 hj ⟨b3, x3, d3, ys, e3, l3, a3⟩ QY qy => ?_) (fun acc H3 ⟨b3, x3, d3, ys, e3, l3, a3⟩ => ?_)
      · obtain ⟨_, _, _, ys, e, l, _⟩ := h
        rw [e, List.length_map]
        omega
      · refine ⟨_, rfl, _, rfl, p, 26, _, rfl, b3, by omega, by decide, by decide, fun r3 H4 r30 r31 b4 k4 => ?_⟩
        refine ⟨abc, _, _, rfl, rfl, by decide +kernel, abc_ix r30 r31, ?_⟩
        have d4 : H4 D = some (.lst acc) := (k4 D hDp).trans d3
        refine qy _ H4 d4 ⟨(b4.at (upd_ne hDp.symm)).mono (by omega), fun b o e hb => ?_, upd_same, ys ++ [97 + r3.toNat], by rw [e3]; simp, by simp [l3], fun c hc => ?_⟩
        · have h4 : H4 b = some o := (k4 b hb).trans (x3 b o e hb)
          by_cases hbd : b = D
          · subst hbd
            have := x2 b o e hb
            rw [hD] at this
            cases this
          · rw [upd_ne hbd]
            exact h4
        · rcases List.mem_append.mp hc with hc | hc
          · exact a3 c hc
          · rw [List.mem_singleton.mp hc]
            omega
      · refine ⟨_, D, ys.map fun c => ⟨#[c]⟩, rfl, rfl, SqL.of (by rw [d3, e3, List.map_map]; rfl), ?_, ?_⟩
        · have e5 : ((ys.map fun c => (⟨#[c]⟩ : Str)).map (·.length)).sum = ys.length := by
            rw [List.map_map]
            exact one_sum ys
          rw [e5]
          have e0 : (Str.ofString "").length = 0 := by decide +kernel
          rw [e0, List.length_map]
          omega
        · have nz := name_join (l := ys) (by omega) (by omega) a3
          generalize Txt.join (Str.ofString "") (ys.map fun c => (⟨#[c]⟩ : Str)) = z at nz
          have L3 : H3 L = some (.lst (zs.map V.str)) := x3 _ _ l1 Lp
          refine hZ2 _ _ ?_
          refine seq_hide fun Z3 hZ3 => ?_
          refine ⟨_, rfl, p, 3, _, rfl, b3, by omega, by decide, by decide, fun r4 H4 r40 r41 b4 k4 => ?_⟩
          refine ⟨rfl, _, rfl, ?_⟩
          have fin : ∀ (z : Str) (H5 : Hp), nameB z = true → Box H5 p (n + 13 * i + 12) → Ext p H1 H5 → rNew K { nx := fun σ H' => ∃ v4 v5 v6 zs, σ = [some (.ref p), some (.int m), some (.str abc), some (.ref L), v4, v5, v6] ∧ Box H' p (n + 13 * ((i + 1 : Nat) : Int)) ∧ Ext p H H' ∧ H' L = some (.lst (zs.map V.str)) ∧ zs.length = i + 1 ∧ Names zs, rt := Q } [some (.ref p), some (.int m), some (.str abc), some (.ref L), some (.int (0 + i)), some (.int sz), some (.str z)] H5 := fun z H5 nz b5 x5 => by
            refine new_one nz (by omega) (x5 _ _ l1 Lp) fun z' H6 n6 i6 L6 x6 => ?_
            obtain ⟨u1, u2, u3, hp5, r5⟩ := b5
            refine ⟨_, _, _, zs ++ [z'], rfl, ⟨u1, u2, u3, x6 _ _ hp5 Lp.symm, by obtain ⟨q1, q2, q3, q4, q5⟩ := r5; exact ⟨q1, q2, q3, q4, by omega⟩⟩, fun b o e hb => x6 _ _ (x5 _ _ (x1 _ _ e hb) hb) (ne_of_none e hL), L6, by simp [z1], ?_, fun y hy => ?_⟩
            · rw [List.nodup_append]
              refine ⟨nm1.1, by simp, fun a ha b hb e => ?_⟩
              rw [List.mem_singleton.mp hb] at e
              exact i6 (by rw [← e]; exact ha)
            · rcases List.mem_append.mp hy with hy | hy
              · exact nm1.2 y hy
              · rw [List.mem_singleton.mp hy]
                exact n6
          have x4 : Ext p H1 H4 := x3.took k4
          refine iteB (fun ht => ?_) (fun ht => iteF ?_)
          · have L4 : H4 L = some (.lst (zs.map V.str)) := x4 _ _ l1 Lp
            refine ⟨_, rfl, Nat.zero_le _, fun l5 hl5 => ?_⟩
            have s5 := Same.upd (o := .lst []) hl5
            refine ⟨L, l5, _, rfl, rfl, SqL.of (s5 _ _ L4), SqL.of upd_same, _, rfl, ?_⟩
            have x5 : Ext p H1 (upd H4 l5 (.lst [])) := x4.laid hl5
            have b5 := b4.same s5
            refine iteB (fun he => ?_) (fun he => ?_)
            · have hne : 0 < zs.length := by
                cases zs with
                | nil => exact absurd he (by decide)
                | cons _ _ => exact Nat.succ_pos _
              refine ⟨_, rfl, _, rfl, _, rfl, _, _, rfl, .inl ⟨_, SqL.of (s5 _ _ L4), rfl⟩, p, (zs.map V.str).length, _, rfl, b5, by omega, by rw [List.length_map]; omega, by rw [List.length_map]; omega, fun r6 H6 r60 r61 b6 k6 => ?_⟩
              rw [List.length_map] at r61
              have L6 : H6 L = some (.lst (zs.map V.str)) := (k6 L Lp).trans (s5 _ _ L4)
              have hr6 : r6.toNat < zs.length := by omega
              have e6 : atI (zs.map V.str) ((r6.toNat : Nat) : Int) = some (.str zs[r6.toNat]) := atI_nat (by simp [hr6])
              rw [Int.toNat_of_nonneg r60] at e6
              have nz6 := nm1.2 _ (List.getElem_mem hr6)
              refine ⟨L, _, _, _, rfl, rfl, SqL.of L6, e6, ?_⟩
              refine ⟨_, rfl, _, rfl, (Sm.name nz6).line (by decide), ?_⟩
              refine ⟨_, rfl, _, rfl, p, 26, _, rfl, b6, by omega, by decide, by decide, fun r7 H7 r70 r71 b7 k7 => ?_⟩
              refine ⟨abc, _, _, rfl, rfl, by decide +kernel, abc_ix r70 r71, ?_⟩
              refine ⟨_, _, rfl, rfl, ?_, ?_⟩
              · have := cut7_len zs[r6.toNat]
                rw [sizeLine_eq]
                show (Txt.slice zs[r6.toNat] none (some 7)).length + 1 ≤ _
                omega
              · exact hZ3 _ _ (fin (cut7 zs[r6.toNat] r7.toNat) H7 (cut7_name nz6 (by omega)) (b7.mono (by omega)) ((x5.took k6).took k7))
            · exact hZ3 _ _ (fin z (upd H4 l5 (.lst [])) nz (b5.mono (by omega)) x5)
          · exact hZ3 _ _ (fin z H4 nz (b4.mono (by omega)) x4)
    · rintro σ H1 ⟨v4, v5, v6, zs, rfl, b1, x1, l1, z1, nm1⟩
      exact ⟨_, rfl, q L zs H1 hL nm1 z1 l1 (b1.mono (by omega)) x1⟩
end
end K02

set_option maxHeartbeats 4000000
namespace K02
open PySem L2
/-! ### days, sums, numbers -/
structure TookP (vs : List V) (H : Hp) (Q : VK) (k : Int) (lo hi : Int) : Prop where
  ex : ∃ (p : Addr) (n : Int), vs = [.ref p] ∧ Box H p n ∧ n < 1000000 ∧ ∀ d H', lo ≤ d → d ≤ hi → Box H' p (n + k) → Ext p H H' → Q (.int d) H'
def sp_day : Sp := fun vs H Q _ => TookP vs H Q 4 0 99999
def sp_sum : Sp := fun vs H Q _ => TookP vs H Q 4 0 1000000000
theorem six_ints (a b c d e f : V) {r : Int} (r0 : 0 ≤ r) (r1 : r < 6) : ∃ v, atI [a, b, c, d, e, f] r = some v ∧ (v = a ∨ v = b ∨ v = c ∨ v = d ∨ v = e ∨ v = f) := by
  have : r = 0 ∨ r = 1 ∨ r = 2 ∨ r = 3 ∨ r = 4 ∨ r = 5 := by omega
  rcases this with rfl | rfl | rfl | rfl | rfl | rfl
  · exact ⟨a, rfl, .inl rfl⟩
  · exact ⟨b, rfl, .inr (.inl rfl)⟩
  · exact ⟨c, rfl, .inr (.inr (.inl rfl))⟩
  · exact ⟨d, rfl, .inr (.inr (.inr (.inl rfl)))⟩
  · exact ⟨e, rfl, .inr (.inr (.inr (.inr (.inl rfl))))⟩
  · exact ⟨f, rfl, .inr (.inr (.inr (.inr (.inr rfl))))⟩
theorem five_ints (a b c d e : V) {r : Int} (r0 : 0 ≤ r) (r1 : r < 5) : ∃ v, atI [a, b, c, d, e] r = some v ∧ (v = a ∨ v = b ∨ v = c ∨ v = d ∨ v = e) := by
  have : r = 0 ∨ r = 1 ∨ r = 2 ∨ r = 3 ∨ r = 4 := by omega
  rcases this with rfl | rfl | rfl | rfl | rfl
  · exact ⟨a, rfl, .inl rfl⟩
  · exact ⟨b, rfl, .inr (.inl rfl)⟩
  · exact ⟨c, rfl, .inr (.inr (.inl rfl))⟩
  · exact ⟨d, rfl, .inr (.inr (.inr (.inl rfl)))⟩
  · exact ⟨e, rfl, .inr (.inr (.inr (.inr rfl)))⟩
theorem two_at (a b : V) {r : Int} (r0 : 0 ≤ r) (r1 : r < 2) : ∃ v, atI [a, b] r = some v ∧ (v = a ∨ v = b) := by
  have : r = 0 ∨ r = 1 := by omega
  rcases this with rfl | rfl
  · exact ⟨a, rfl, .inl rfl⟩
  · exact ⟨b, rfl, .inr rfl⟩
section
variable {P : Program} {w : World} {K : PySem.W.Frag} {mg : Str → Option Value} {base : Heap} {k_HIGHEST_RANK k_LOWEST_RANK k_MOST_LEAVES k_MOST_LETTERS k_MOST_PARTS k_MOST_RANKS k_MOST_RULES k_MOST_SEATS : Tok}
theorem ok_Lday {f : Addr} {fd : FuncData} (F : Fun K "_law_day" "_law_day" s_Lday f fd) (T : Txt K mg k_HIGHEST_RANK k_LOWEST_RANK k_MOST_LEAVES k_MOST_LETTERS k_MOST_PARTS k_MOST_RANKS k_MOST_RULES k_MOST_SEATS) (h_Ltake : Has P w K mg base "_law_take" 1 ["_law_box_here", "_law_many_here"] sp_take) : FnOk P w K mg base CX0 2 f fd ["_law_box_here"] sp_day := by
  refine F.ok sc_Lday (fun vs H Q E h => ?_) (fun cdv A outer s H vs Q E hr h => ?_)
  · obtain ⟨p, n, rfl, _⟩ := h.ex
    rfl
  · obtain ⟨p, n, rfl, hb, hn, q⟩ := h.ex
    clear h
    refine ⟨_, (pss_cons (ps_set (i := 1) sc_Lday.nd rfl (Or.inl rfl) (pe_ix ix_list (pe_lst (pa_cons pe_int (pa_cons pe_int (pa_cons pe_int (pa_cons pe_int (pa_cons pe_int (pa_cons pe_int pa_nil))))))) (pe_fn h_Ltake (hr.mono (by decide)) rfl (pa_cons (pv 0) (pa_cons pe_int pa_nil))) (fun _ _ => rfl))) (pss_one (ps_ret (pe_ix ix_list (pe_lst (pa_cons (pe_fn h_Ltake (hr.mono (by decide)) rfl (pa_cons (pv 0) (pa_cons pe_int pa_nil))) (pa_cons (pe_fn h_Ltake (hr.mono (by decide)) rfl (pa_cons (pv 0) (pa_cons pe_int pa_nil))) (pa_cons (pe_op op_sub pe_int (pe_fn h_Ltake (hr.mono (by decide)) rfl (pa_cons (pv 0) (pa_cons pe_int pa_nil)))) pa_nil)))) (pv 1) (fun _ _ => rfl))))), ?_⟩
    refine ⟨by show 6 ≤ sizeLine; decide, fun l hl => ?_⟩
    refine ⟨_, rfl, p, 6, n, rfl, hb.same (Same.upd hl), by omega, by decide, by decide, fun r H1 r0 r1 b1 k1 => ?_⟩
    have x1 : Ext p H H1 := ((Ext.refl p H).laid hl).took k1
    obtain ⟨v, hv, hv6⟩ := six_ints (.int 0) (.int 0) (.int 0) (.int 1) (.int 1) (.int 2) r0 r1
    obtain ⟨k, rfl, k0, k1'⟩ : ∃ k : Int, v = .int k ∧ 0 ≤ k ∧ k < 3 := by
      rcases hv6 with rfl | rfl | rfl | rfl | rfl | rfl
      · exact ⟨0, rfl, by decide, by decide⟩
      · exact ⟨0, rfl, by decide, by decide⟩
      · exact ⟨0, rfl, by decide, by decide⟩
      · exact ⟨1, rfl, by decide, by decide⟩
      · exact ⟨1, rfl, by decide, by decide⟩
      · exact ⟨2, rfl, by decide, by decide⟩
    refine ⟨l, _, _, _, rfl, rfl, SqL.of ((k1 l (hb.ne hl)).trans upd_same), hv, ?_⟩
    refine ⟨_, rfl, p, 12, _, rfl, b1, by omega, by decide, by decide, fun d1 H2 d10 d11 b2 k2 => ?_⟩
    refine ⟨_, rfl, p, 40, _, rfl, b2, by omega, by decide, by decide, fun d2 H3 d20 d21 b3 k3 => ?_⟩
    refine ⟨_, rfl, p, 99999, _, rfl, b3, by omega, by decide, by decide, fun d3 H4 d30 d31 b4 k4 => ?_⟩
    refine ⟨_, _, rfl, rfl, by show 3 ≤ sizeLine; decide, fun l5 hl5 => ?_⟩
    obtain ⟨v, hv, hv3⟩ := three_at (.int d1) (.int d2) (.int (99999 - d3)) k0 k1'
    refine ⟨_, rfl, l5, _, _, _, rfl, rfl, SqL.of upd_same, hv, ?_⟩
    have x5 := (((x1.took k2).took k3).took k4).laid (o := .lst [.int d1, .int d2, .int (99999 - d3)]) hl5
    have b5 := (b4.same (Same.upd (o := .lst [.int d1, .int d2, .int (99999 - d3)]) hl5)).mono (m := n + 4) (by omega)
    rcases hv3 with rfl | rfl | rfl
    · exact q _ _ (by omega) (by omega) b5 x5
    · exact q _ _ (by omega) (by omega) b5 x5
    · exact q _ _ (by omega) (by omega) b5 x5
theorem ok_Lsum {f : Addr} {fd : FuncData} (F : Fun K "_law_sum" "_law_sum" s_Lsum f fd) (T : Txt K mg k_HIGHEST_RANK k_LOWEST_RANK k_MOST_LEAVES k_MOST_LETTERS k_MOST_PARTS k_MOST_RANKS k_MOST_RULES k_MOST_SEATS) (h_Ltake : Has P w K mg base "_law_take" 1 ["_law_box_here", "_law_many_here"] sp_take) : FnOk P w K mg base CX0 2 f fd ["_law_box_here"] sp_sum := by
  refine F.ok sc_Lsum (fun vs H Q E h => ?_) (fun cdv A outer s H vs Q E hr h => ?_)
  · obtain ⟨p, n, rfl, _⟩ := h.ex
    rfl
  · obtain ⟨p, n, rfl, hb, hn, q⟩ := h.ex
    clear h
    refine ⟨_, (pss_one (ps_ret (pe_ix ix_list (pe_lst (pa_cons (pe_fn h_Ltake (hr.mono (by decide)) rfl (pa_cons (pv 0) (pa_cons pe_int pa_nil))) (pa_cons (pe_op op_mul pe_int (pe_fn h_Ltake (hr.mono (by decide)) rfl (pa_cons (pv 0) (pa_cons pe_int pa_nil)))) (pa_cons (pe_op op_sub (pe_op op_pow pe_int pe_int) (pe_fn h_Ltake (hr.mono (by decide)) rfl (pa_cons (pv 0) (pa_cons pe_int pa_nil)))) pa_nil)))) (pe_ix ix_list (pe_lst (pa_cons pe_int (pa_cons pe_int (pa_cons pe_int (pa_cons pe_int (pa_cons pe_int pa_nil)))))) (pe_fn h_Ltake (hr.mono (by decide)) rfl (pa_cons (pv 0) (pa_cons pe_int pa_nil))) (fun _ _ => rfl)) (fun _ _ => rfl)))), ?_⟩
    refine ⟨_, rfl, p, 9, _, rfl, hb, by omega, by decide, by decide, fun d1 H2 d10 d11 b2 k2 => ?_⟩
    refine ⟨_, rfl, p, 20, _, rfl, b2, by omega, by decide, by decide, fun d2 H3 d20 d21 b3 k3 => ?_⟩
    refine ⟨_, _, rfl, rfl, .inl ⟨by decide, by decide⟩, ?_⟩
    refine ⟨_, _, rfl, rfl, ⟨by decide, by decide, by decide⟩, ?_⟩
    refine ⟨_, rfl, p, 3, _, rfl, b3, by omega, by decide, by decide, fun d3 H4 d30 d31 b4 k4 => ?_⟩
    refine ⟨_, _, rfl, rfl, by show 3 ≤ sizeLine; decide, fun l5 hl5 => ?_⟩
    have x5 := ((((Ext.refl p H).took k2).took k3).took k4).laid (o := .lst [.int d1, .int (10 * d2), .int (10 ^ (9 : Int).toNat - d3)]) hl5
    have b5 := b4.same (Same.upd (o := .lst [.int d1, .int (10 * d2), .int (10 ^ (9 : Int).toNat - d3)]) hl5)
    refine ⟨by show 5 ≤ sizeLine; decide, fun l6 hl6 => ?_⟩
    have s6 := Same.upd (o := .lst [.int 0, .int 1, .int 1, .int 1, .int 2]) hl6
    have b6 := b5.same s6
    refine ⟨_, rfl, p, 5, _, rfl, b6, by omega, by decide, by decide, fun r H7 r0 r1 b7 k7 => ?_⟩
    have n5 := b4.ne hl5
    have n6 := b5.ne hl6
    obtain ⟨v, hv, hv6⟩ := five_ints (.int 0) (.int 1) (.int 1) (.int 1) (.int 2) r0 r1
    obtain ⟨k, rfl, k0, k1'⟩ : ∃ k : Int, v = .int k ∧ 0 ≤ k ∧ k < 3 := by
      rcases hv6 with rfl | rfl | rfl | rfl | rfl
      · exact ⟨0, rfl, by decide, by decide⟩
      · exact ⟨1, rfl, by decide, by decide⟩
      · exact ⟨1, rfl, by decide, by decide⟩
      · exact ⟨1, rfl, by decide, by decide⟩
      · exact ⟨2, rfl, by decide, by decide⟩
    refine ⟨l6, _, _, _, rfl, rfl, SqL.of ((k7 l6 n6).trans upd_same), hv, ?_⟩
    obtain ⟨v, hv, hv3⟩ := three_at (.int d1) (.int (10 * d2)) (.int (10 ^ (9 : Int).toNat - d3)) k0 k1'
    refine ⟨l5, _, _, _, rfl, rfl, SqL.of ((k7 l5 n5).trans (s6 _ _ upd_same)), hv, ?_⟩
    have x7 := (x5.laid (o := .lst [.int 0, .int 1, .int 1, .int 1, .int 2]) hl6).took k7
    have b7' := b7.mono (m := n + 4) (by omega)
    have e9 : (10 : Int) ^ (9 : Int).toNat = 1000000000 := by decide
    rcases hv3 with rfl | rfl | rfl
    · exact q _ _ (by omega) (by omega) b7' x7
    · exact q _ _ (by omega) (by omega) b7' x7
    · exact q _ _ (by omega) (by omega) b7' x7
end
structure ManyP (vs : List V) (H : Hp) (Q : VK) : Prop where
  ex : ∃ (p : Addr) (m n : Int), vs = [.ref p, .int m] ∧ Box H p n ∧ n < 1000000 ∧ 0 ≤ m ∧ m ≤ 1000 ∧ ∀ d H', 0 ≤ d → d ≤ m → Box H' p (n + 2) → Ext p H H' → Q (.int d) H'
def sp_many : Sp := fun vs H Q _ => ManyP vs H Q
structure NumsP (vs : List V) (H : Hp) (Q : VK) : Prop where
  ex : ∃ (p : Addr) (m n : Int), vs = [.ref p, .int m] ∧ Box H p n ∧ n < 1000000 ∧ 0 ≤ m ∧ m ≤ 100 ∧ ∀ (l : Addr) (ns : List Int) (H' : Hp), H l = none → ns.length = m.toNat → ns.Pairwise (· < ·) → (∀ x ∈ ns, (0 : Int) ≤ x ∧ x ≤ 2000) → H' l = some (.lst (ns.map V.int)) → Box H' p (n + 2 * m) → Ext p H H' → Q (.ref l) H'
def sp_nums : Sp := fun vs H Q _ => NumsP vs H Q
section
variable {P : Program} {w : World} {K : PySem.W.Frag} {mg : Str → Option Value} {base : Heap} {k_HIGHEST_RANK k_LOWEST_RANK k_MOST_LEAVES k_MOST_LETTERS k_MOST_PARTS k_MOST_RANKS k_MOST_RULES k_MOST_SEATS : Tok}
theorem ok_Lmany {f : Addr} {fd : FuncData} (F : Fun K "_law_many" "_law_many" s_Lmany f fd) (T : Txt K mg k_HIGHEST_RANK k_LOWEST_RANK k_MOST_LEAVES k_MOST_LETTERS k_MOST_PARTS k_MOST_RANKS k_MOST_RULES k_MOST_SEATS) (h_Ltake : Has P w K mg base "_law_take" 1 ["_law_box_here", "_law_many_here"] sp_take) : FnOk P w K mg base CX0 2 f fd ["_law_box_here", "_law_most"] sp_many := by
  refine F.ok sc_Lmany (fun vs H Q E h => ?_) (fun cdv A outer s H vs Q E hr h => ?_)
  · obtain ⟨p, m, n, rfl, _⟩ := h.ex
    rfl
  · obtain ⟨p, m, n, rfl, hb, hn, m0, m1, q⟩ := h.ex
    clear h
    refine ⟨_, (pss_one (ps_ret (pe_ifExp (pt_cmpR op_eq (pe_fn h_Ltake (hr.mono (by decide)) rfl (pa_cons (pv 0) (pa_cons pe_int pa_nil))) pe_int (nomark _)) (pv 1) (pe_fn h_Ltake (hr.mono (by decide)) rfl (pa_cons (pv 0) (pa_cons (pe_op op_add (pv 1) pe_int) pa_nil)))))), ?_⟩
    refine ⟨_, rfl, p, 3, _, rfl, hb, by omega, by decide, by decide, fun r H1 r0 r1 b1 k1 => ?_⟩
    refine ⟨rfl, _, rfl, iteB (fun _ => ?_) (fun _ => ?_)⟩
    · exact ⟨_, rfl, q _ _ (by omega) (by omega) (b1.mono (by omega)) ((Ext.refl p H).took k1)⟩
    · refine ⟨_, rfl, _, rfl, _, _, rfl, rfl, p, m + 1, _, rfl, b1, by omega, by omega, by omega, fun d H2 d0 d1 b2 k2 => ?_⟩
      exact q _ _ (by omega) (by omega) (b2.mono (by omega)) (((Ext.refl p H).took k1).took k2)
theorem ok_Lnumbers {f : Addr} {fd : FuncData} (F : Fun K "_law_numbers" "_law_numbers" s_Lnumbers f fd) (T : Txt K mg k_HIGHEST_RANK k_LOWEST_RANK k_MOST_LEAVES k_MOST_LETTERS k_MOST_PARTS k_MOST_RANKS k_MOST_RULES k_MOST_SEATS) (h_Ltake : Has P w K mg base "_law_take" 1 ["_law_box_here", "_law_many_here"] sp_take) : FnOk P w K mg base CX0 2 f fd ["_law_box_here", "_law_many_here"] sp_nums := by
  refine F.ok sc_Lnumbers (fun vs H Q E h => ?_) (fun cdv A outer s H vs Q E hr h => ?_)
  · obtain ⟨p, m, n, rfl, _⟩ := h.ex
    rfl
  · obtain ⟨p, m, n, rfl, hb, hn, m0, m1, q⟩ := h.ex
    clear h
    refine ⟨_, (pss_cons (ps_par (i := 2) (j := 3) rfl sc_Lnumbers.nd rfl rfl (by decide) rfl rfl (pa_cons (pe_lst pa_nil) (pa_cons pe_int pa_nil)) rfl) (pss_cons (ps_for PassesOwn.never rfl (pi_range1 rfl T.b_range (pa_cons (pv 1) pa_nil)) (pg_name (i := 4) sc_Lnumbers.nd rfl (Or.inl rfl)) (pss_cons (ps_set (i := 3) sc_Lnumbers.nd rfl (Or.inl rfl) (pe_op op_add (pv 3) (pe_ix ix_list (pe_lst (pa_cons pe_int (pa_cons pe_int (pa_cons (pe_op op_add pe_int (pe_fn h_Ltake (hr.mono (by decide)) rfl (pa_cons (pv 0) (pa_cons pe_int pa_nil)))) pa_nil)))) (pe_fn h_Ltake (hr.mono (by decide)) rfl (pa_cons (pv 0) (pa_cons pe_int pa_nil))) (fun _ _ => rfl)))) (pss_cons (ps_expr (pe_bm PySem.F.plainAttrs_list PySem.F.slot_list_append PySem.F.type_list_append (MtM.r mt_append) (pv 2) (pa_cons (pv 3) pa_nil))) (pss_one (ps_set (i := 3) sc_Lnumbers.nd rfl (Or.inl rfl) (pe_op op_add (pv 3) pe_int)))))) (pss_one (ps_ret (pv 2))))), ?_⟩
    refine ⟨Nat.zero_le _, fun L hL => ?_⟩
    have Lp := hb.ne hL
    refine ⟨_, _, rfl, ?_⟩
    refine ⟨_, rfl, m, rfl, by omega, by omega, for_range (fun i σ H' => ∃ (nx : Int) (v4 : Option V) (ns : List Int), σ = [some (.ref p), some (.int m), some (.ref L), some (.int nx), v4] ∧ Box H' p (n + 2 * i) ∧ Ext p H H' ∧ H' L = some (.lst (ns.map V.int)) ∧ ns.length = i ∧ ns.Pairwise (· < ·) ∧ (∀ x ∈ ns, 0 ≤ x ∧ x < nx) ∧ 0 ≤ nx ∧ nx ≤ 12 * i)
      ⟨0, _, [], rfl, (hb.same (Same.upd hL)).mono (by omega), (Ext.refl p H).laid hL, upd_same, rfl, .nil, by simp, by decide, by decide⟩ ?_ ?_⟩
    · rintro i σ H1 hi ⟨nx, v4, ns, rfl, b1, x1, l1, z1, pw, al, nx0, nx1⟩
      refine ⟨_, rfl, _, rfl, p, 9, _, rfl, b1, by omega, by decide, by decide, fun d H2 d0 d1 b2 k2 => ?_⟩
      refine ⟨_, _, rfl, rfl, by show 3 ≤ sizeLine; decide, fun l hl => ?_⟩
      have sl := Same.upd (o := .lst [.int 0, .int 0, .int (1 + d)]) hl
      refine ⟨_, rfl, p, 3, _, rfl, b2.same sl, by omega, by decide, by decide, fun r H3 r0 r1 b3 k3 => ?_⟩
      obtain ⟨v, hv, hv3⟩ := three_at (.int 0) (.int 0) (.int (1 + d)) r0 r1
      obtain ⟨e, rfl, e0, e1⟩ : ∃ e : Int, v = .int e ∧ 0 ≤ e ∧ e ≤ 9 := by
        rcases hv3 with rfl | rfl | rfl
        · exact ⟨0, rfl, by decide, by decide⟩
        · exact ⟨0, rfl, by decide, by decide⟩
        · exact ⟨1 + d, rfl, by omega, by omega⟩
      refine ⟨l, _, _, _, rfl, rfl, SqL.of ((k3 l (b2.ne hl)).trans upd_same), hv, _, _, rfl, rfl, ?_⟩
      have x3 : Ext p H1 H3 := (((Ext.refl p H1).took k2).laid hl).took k3
      have L3 : H3 L = some (.lst (ns.map V.int)) := x3 _ _ l1 Lp
      refine ⟨_, rfl, .inl ⟨rfl, _, SqL.of L3⟩, _, rfl, L, _, _, rfl, rfl, L3, by rw [List.length_map, sizeLine_eq]; omega, ?_⟩
      refine ⟨_, rfl, _, _, rfl, rfl, ?_⟩
      refine ⟨nx + e + 1, _, ns ++ [nx + e], rfl, ?_, fun b o eb hb => ?_, ?_, by simp [z1], ?_, fun x hx => ?_, by omega, by omega⟩
      · exact (b3.at (upd_ne Lp.symm)).mono (by omega)
      · rw [upd_ne (ne_of_none eb hL)]
        exact x3 _ _ (x1 _ _ eb hb) hb
      · rw [upd_same, List.map_append]
        rfl
      · rw [List.pairwise_append]
        refine ⟨pw, List.pairwise_singleton _ _, fun a ha b hb => ?_⟩
        rw [List.mem_singleton.mp hb]
        have := al a ha
        omega
      · rcases List.mem_append.mp hx with hx | hx
        · have := al x hx
          omega
        · rw [List.mem_singleton.mp hx]
          omega
    · rintro σ H1 ⟨nx, v4, ns, rfl, b1, x1, l1, z1, pw, al, nx0, nx1⟩
      exact ⟨_, rfl, q L ns H1 hL z1 pw (fun x hx => by have := al x hx; omega) l1 (b1.mono (by omega)) x1⟩
end
end K02

set_option maxHeartbeats 4000000
namespace K02
open PySem L2
/-! ### parts -/
abbrev PRow := Addr × Str × Str
structure PRows (H : Hp) (L : Addr) (rows : List PRow) : Prop where
  lst : H L = some (.lst (rows.map fun r => V.ref r.1))
  tup : ∀ r ∈ rows, H r.1 = some (.tup [.str r.2.1, .str r.2.2])
/-- one within another of those ahead -/
def PartsOk (zs : List Str) (ps : List (Str × Str)) : Prop := ∀ (i : Nat) (x : Str × Str), ps[i]? = some x → zs[i]? = some x.1 ∧ (x.2 = Str.ofString "" ∨ ∃ j, j < i ∧ zs[j]? = some x.2)
theorem names_ne {H : Hp} {p nl : Addr} {n : Int} {zs : List Str} (b : Box H p n) (h : H nl = some (.lst (zs.map V.str))) : nl ≠ p := by
  obtain ⟨x, y, z, hp, _⟩ := b
  refine ne_of h hp fun e => ?_
  have := HO.lst.inj e
  cases zs with
  | nil => cases this
  | cons a r => cases (List.cons.inj this).1
theorem PartsOk.snoc {zs : List Str} {ps : List (Str × Str)} {a b : Str} (h : PartsOk zs ps) (ha : zs[ps.length]? = some a) (hb : b = Str.ofString "" ∨ ∃ j, j < ps.length ∧ zs[j]? = some b) : PartsOk zs (ps ++ [(a, b)]) := by
  intro i x e
  by_cases hi : i < ps.length
  · rw [List.getElem?_append_left hi] at e
    exact h i x e
  · rw [List.getElem?_append_right (by omega)] at e
    by_cases h0 : i - ps.length = 0
    · rw [h0] at e
      cases e
      have : i = ps.length := by omega
      subst this
      exact ⟨ha, hb⟩
    · rw [List.getElem?_eq_none (by simp; omega)] at e
      cases e
structure PartsP (vs : List V) (H : Hp) (Q : VK) : Prop where
  ex : ∃ (p nl : Addr) (n : Int) (zs : List Str), vs = [.ref p, .ref nl] ∧ Box H p n ∧ n < 1000000 ∧ H nl = some (.lst (zs.map V.str)) ∧ 8 ≤ zs.length ∧
    ∀ (L : Addr) (rows : List PRow) (H' : Hp), H L = none → PRows H' L rows → 1 ≤ rows.length → rows.length ≤ 8 → PartsOk zs (rows.map (·.2)) → Box H' p (n + 10) → Ext p H H' → Q (.ref L) H'
def sp_parts : Sp := fun vs H Q _ => PartsP vs H Q
structure RowP (vs : List V) (H : Hp) (Q : VK) : Prop where
  ex : ∃ (nl : Addr) (zs : List Str), vs = [.ref nl] ∧ H nl = some (.lst (zs.map V.str)) ∧ 8 ≤ zs.length ∧
    ∀ (L : Addr) (rows : List PRow) (H' : Hp), H L = none → PRows H' L rows → 1 ≤ rows.length → rows.length ≤ 8 → PartsOk zs (rows.map (·.2)) → Same H H' → Q (.ref L) H'
theorem str_at {zs : List Str} {k : Nat} {z : Str} (h : zs[k]? = some z) : atI (zs.map V.str) (k : Int) = some (.str z) := atI_nat (by rw [List.getElem?_map, h]; rfl)
section
variable {P : Program} {w : World} {K : PySem.W.Frag} {mg : Str → Option Value} {base : Heap} {k_HIGHEST_RANK k_LOWEST_RANK k_MOST_LEAVES k_MOST_LETTERS k_MOST_PARTS k_MOST_RANKS k_MOST_RULES k_MOST_SEATS : Tok}
theorem ok_Lparts {f : Addr} {fd : FuncData} (F : Fun K "_law_parts" "_law_parts" s_Lparts f fd) (T : Txt K mg k_HIGHEST_RANK k_LOWEST_RANK k_MOST_LEAVES k_MOST_LETTERS k_MOST_PARTS k_MOST_RANKS k_MOST_RULES k_MOST_SEATS) (h_Ltake : Has P w K mg base "_law_take" 1 ["_law_box_here", "_law_many_here"] sp_take) (h_Lmany : Has P w K mg base "_law_many" 2 ["_law_box_here", "_law_most"] sp_many) :
    FnOk P w K mg base CX0 3 f fd ["_law_box_here", "_law_names_here"] sp_parts := by
  refine F.ok sc_Lparts (fun vs H Q E h => ?_) (fun cdv A outer s H vs Q E hr h => ?_)
  · obtain ⟨p, nl, n, zs, rfl, _⟩ := h.ex
    rfl
  · obtain ⟨p, nl, n, zs, rfl, hb, hn, hnl, z8, q⟩ := h.ex
    clear h
    refine ⟨_, (pss_cons (ps_set (i := 2) sc_Lparts.nd rfl (Or.inl rfl) (pe_lst pa_nil)) (pss_cons (ps_for PassesOwn.never rfl (pi_range1 rfl T.b_range (pa_cons (pe_callB (call_max2 rfl) rfl T.b_max (by decide +kernel) (pa_cons pe_int (pa_cons (pe_fn h_Lmany (hr.mono (by decide)) rfl (pa_cons (pv 0) (pa_cons pe_int pa_nil))) pa_nil))) pa_nil)) (pg_name (i := 3) sc_Lparts.nd rfl (Or.inl rfl)) (pss_one (ps_expr (pe_bm PySem.F.plainAttrs_list PySem.F.slot_list_append PySem.F.type_list_append (MtM.r mt_append) (pv 2) (pa_cons (pe_tup (pa_cons (pe_ix ix_list (pv 1) (pv 3) (fun _ _ => rfl)) (pa_cons (pe_ix ix_list (pe_op op_cat (pe_lst (pa_cons pe_str pa_nil)) (pe_lc (T := .one) (NT := (["_law_row"] : List Str)) (NF := ([] : List Str)) (js := []) (BlkC.ok (N0 := (["_law_box_here", "_law_names_here", "_law_rows", "_law_k"] : List Str)) (osc := defScope s_Lparts) (by decide +kernel) rfl rfl) (⟨_, ⟨_, rfl⟩, rfl⟩) rfl (pi_list (pv 2)) (fun b => ⟨pts_nil, (pe_ix ix_tup (pv 0) pe_int (fun _ _ => rfl))⟩))) (pe_fn h_Ltake (hr.mono (by decide)) rfl (pa_cons (pv 0) (pa_cons (pe_op op_add (pv 3) pe_int) pa_nil))) (fun _ _ => rfl)) pa_nil))) pa_nil))))) (pss_one (ps_ret (pv 2))))), ?_⟩
    refine ⟨Nat.zero_le _, fun L hL => ?_⟩
    have Lp := hb.ne hL
    have np := names_ne hb hnl
    have sL := Same.upd (o := .lst []) hL
    refine ⟨_, rfl, p, 8, n, rfl, hb.same sL, hn, by decide, by decide, fun d H1 d0 d1 b1 x1 => ?_⟩
    refine ⟨_, _, rfl, _, rfl, by split <;> omega, by split <;> omega, ?_⟩
    have L1 : H1 L = some (.lst []) := x1 _ _ upd_same Lp
    refine for_range (fun i σ H' => ∃ (v3 : Option V) (rows : List PRow), σ = [some (.ref p), some (.ref nl), some (.ref L), v3] ∧ Box H' p (n + 2 + i) ∧ Ext p H H' ∧ PRows H' L rows ∧ rows.length = i ∧ PartsOk zs (rows.map (·.2)))
      ⟨_, [], rfl, b1.mono (by omega), sL.ext.trans x1, ⟨L1, by simp⟩, rfl, fun i x e => by simp at e⟩ ?_ ?_
    · rintro i σ H2 hi ⟨v3, rows, rfl, b2, x2, pr, z2, ok⟩
      have hi8 : i < 8 := by split at hi <;> omega
      have nl2 : H2 nl = some (.lst (zs.map V.str)) := x2 _ _ hnl np
      obtain ⟨z, hz⟩ : ∃ z, zs[i]? = some z := ⟨zs[i], List.getElem?_eq_getElem (by omega)⟩
      refine ⟨_, rfl, .inl ⟨rfl, _, SqL.of pr.lst⟩, ?_⟩
      refine ⟨_, rfl, _, rfl, nl, _, _, _, rfl, rfl, SqL.of nl2, (by rw [Int.zero_add]; exact str_at hz), ?_⟩
      refine ⟨by show 1 ≤ sizeLine; decide, fun l hl => ?_⟩
      have sl := Same.upd (o := .lst [.str (Str.ofString "")]) hl
      refine ⟨_, rfl, L, rfl, ⟨_, SqL.of (sl _ _ pr.lst)⟩, fun D hD bk => ?_⟩
      refine blk_map (fx_list L (rows.map fun r => V.ref r.1)) (fun j => .str (rows.getD j (0, ⟨#[]⟩, ⟨#[]⟩)).2.1) (by rw [List.length_map, sizeLine_eq]; omega) hD (fun H3 s3 => SqL.of (s3 _ _ (sl _ _ pr.lst))) (fun j H3 hj s3 QY qy => ?_) (fun H3 s3 d3 => ?_)
      · rw [List.length_map] at hj
        have ej : (rows.map fun r => V.ref r.1).getD j .non = .ref (rows.getD j (0, ⟨#[]⟩, ⟨#[]⟩)).1 := by simp [List.getD, hj]
        have mj : rows.getD j (0, ⟨#[]⟩, ⟨#[]⟩) ∈ rows := by
          have : rows.getD j (0, ⟨#[]⟩, ⟨#[]⟩) = rows[j] := by simp [List.getD, hj]
          rw [this]
          exact List.getElem_mem hj
        exact ⟨_, rfl, _, _, 0, _, ej, rfl, SqT.of (s3 _ _ (sl _ _ (pr.tup _ mj))), rfl, qy _ (Same.refl _)⟩
      · rw [List.length_map] at d3
        have e3 : ((List.range rows.length).map fun j => V.str (rows.getD j (0, ⟨#[]⟩, ⟨#[]⟩)).2.1) = (rows.map fun r => r.2.1).map V.str := by
          refine List.ext_getElem (by simp) fun j h1 h2 => ?_
          have hj : j < rows.length := by simpa using h1
          simp [List.getD, hj]
        rw [e3] at d3
        refine ⟨l, D, _, _, rfl, rfl, s3 _ _ upd_same, d3, by rw [List.length_map, List.length_map, z2, sizeLine_eq]; show 1 + i ≤ _; omega, fun l4 hl4 => ?_⟩
        have s24 := (sl.trans s3).trans (Same.upd (o := .lst ([.str (Str.ofString "")] ++ (rows.map fun r => r.2.1).map V.str)) hl4)
        refine ⟨_, rfl, _, rfl, _, _, rfl, rfl, p, 0 + (i : Int) + 1, _, rfl, b2.same s24, by omega, by omega, by omega, fun r H5 r0 r1 b5 k5 => ?_⟩
        have hl45 : H5 l4 = some (.lst ((Str.ofString "" :: rows.map fun r => r.2.1).map V.str)) := by
          refine (k5 l4 ((b2.same (sl.trans s3)).ne hl4)).trans upd_same
        obtain ⟨y, hy, hy2⟩ : ∃ y, (Str.ofString "" :: rows.map fun r => r.2.1)[r.toNat]? = some y ∧ (y = Str.ofString "" ∨ ∃ j, j < i ∧ zs[j]? = some y) := by
          cases hr0 : r.toNat with
          | zero => exact ⟨_, rfl, .inl rfl⟩
          | succ j =>
            have hj : j < rows.length := by omega
            refine ⟨rows[j].2.1, by simp [hj], .inr ⟨j, by omega, ?_⟩⟩
            have := ok j rows[j].2 (by simp [hj])
            exact this.1
        have hat := str_at hy
        rw [Int.toNat_of_nonneg r0] at hat
        refine ⟨l4, _, _, _, rfl, rfl, SqL.of hl45, hat, ?_⟩
        refine ⟨by show 2 ≤ sizeLine; decide, fun t ht => ?_⟩
        have x25 : Ext p H2 H5 := s24.ext.took k5
        have st := Same.upd (o := .tup [.str z, .str y]) ht
        have L5 := st _ _ (x25 _ _ pr.lst Lp)
        refine ⟨L, _, _, rfl, rfl, L5, by rw [List.length_map, sizeLine_eq]; omega, ?_⟩
        have tL : t ≠ L := fun e => by
          subst e
          rw [x25 _ _ pr.lst Lp] at ht
          cases ht
        have pt : p ≠ t := (b5.ne ht).symm
        refine ⟨_, rows ++ [(t, z, y)], rfl, ?_, fun b o e hb => ?_, ⟨?_, fun r hr => ?_⟩, by simp [z2], ?_⟩
        · have := ((b5.same st).at (H' := upd (upd H5 t (.tup [.str z, .str y])) L (.lst ((rows.map fun r => V.ref r.1) ++ [.ref t]))) (upd_ne Lp.symm)).mono (m := n + 2 + (i + 1 : Nat)) (by omega)
          exact this
        · rw [upd_ne (ne_of_none e hL)]
          exact st _ _ (x25 _ _ (x2 _ _ e hb) hb)
        · rw [upd_same, List.map_append]
          rfl
        · rcases List.mem_append.mp hr with hr | hr
          · have e := pr.tup r hr
            rw [upd_ne (ne_of e pr.lst (by simp))]
            refine st _ _ (x25 _ _ e ?_)
            obtain ⟨u1, u2, u3, hp2, _⟩ := b2
            exact ne_of e hp2 (by simp)
          · rw [List.mem_singleton.mp hr, upd_ne tL]
            exact upd_same
        · rw [List.map_append]
          refine ok.snoc (a := z) (b := y) ?_ ?_
          · rw [List.length_map, z2]
            exact hz
          · rw [List.length_map, z2]
            exact hy2
    · rintro σ H2 ⟨v3, rows, rfl, b2, x2, pr, z2, ok⟩
      refine ⟨_, rfl, q L rows H2 hL pr ?_ ?_ ok (b2.mono ?_) x2⟩
      · rw [z2]; split <;> omega
      · rw [z2]; split <;> omega
      · split <;> omega
end
end K02

set_option maxHeartbeats 4000000
namespace K02
open PySem L2
/-! ### the house as data -/
/-- shown in at most B signs, at most e deep, of tuples alone -/
structure Shw (e B : Nat) (d : PyData) : Prop where
  able : d.showable = true
  deep : d.depth ≤ e
  len : d.shown.length ≤ B
theorem shw_int {i : Int} (h0 : 0 ≤ i) (h1 : i < 10 ^ 12) : Shw 0 12 (.int i) := by
  refine ⟨?_, by simp [PyData.depth], ?_⟩
  · have : i.natAbs < 2 ^ 40 := by omega
    have h2 : i.natAbs.log2 < 1920 := by
      by_cases h : i.natAbs = 0
      · rw [h]; decide
      · have := (Nat.log2_lt h).mpr this
        omega
    simpa [PyData.showable] using h2
  · rw [PyData.shown_int]
    exact PyProof.Rows.toString_length_le h0 (by decide) h1
theorem shw_str {z : Str} (h : Sm 8 z) : Shw 0 82 (.str z) := by
  refine ⟨by simp [PyData.showable], by simp [PyData.depth], ?_⟩
  rw [PyData.shown_str]
  refine Nat.le_trans (StrLaws.reprText_len z fun c hc => Nat.lt_of_lt_of_le (h.1 c hc) (by decide)) ?_
  have := h.2
  omega
theorem showAll {e B : Nat} : ∀ {ds : List PyData}, (∀ d ∈ ds, Shw e B d) → PyData.showableAll ds = true ∧ PyData.depthAll ds ≤ e ∧ ((PyData.shownAll ds).map (·.length)).sum ≤ ds.length * B
  | [], _ => ⟨by simp [PyData.showableAll], by simp [PyData.depthAll], by simp [PyData.shownAll]⟩
  | d :: ds, h => by
    obtain ⟨h1, h2, h3⟩ := showAll fun x hx => h x (List.mem_cons_of_mem _ hx)
    have g := h d List.mem_cons_self
    refine ⟨by simp [PyData.showableAll, g.able, h1], ?_, ?_⟩
    · simp only [PyData.depthAll]
      have := g.deep
      omega
    · simp only [PyData.shownAll, List.map_cons, List.sum_cons, List.length_cons]
      have := g.len
      rw [Nat.succ_mul]
      omega
theorem shw_tup {e B C : Nat} {ds : List PyData} (h : ∀ d ∈ ds, Shw e B d) (hc : ds.length ≤ C) : Shw (e + 1) (C * (B + 2) + 3) (.tuple ds) := by
  obtain ⟨h1, h2, h3⟩ := showAll h
  refine ⟨by simpa [PyData.showable] using h1, by simp [PyData.depth]; omega, ?_⟩
  simp only [PyData.shown]
  have := tupleText_len_le (PyData.shownAll ds)
  have hl : (PyData.shownAll ds).length = ds.length := PyData.shownAll_length ds
  rw [hl] at this
  have hm : ds.length * B ≤ C * B := Nat.mul_le_mul_right B hc
  rw [Nat.mul_add]
  omega
theorem Shw.mono {e e' B B' : Nat} {d : PyData} (h : Shw e B d) (he : e ≤ e') (hB : B ≤ B') : Shw e' B' d := ⟨h.able, Nat.le_trans h.deep he, Nat.le_trans h.len hB⟩
abbrev RankT := Int × Str × Int × Str × Int × Int
abbrev LeaveT := Int × Str × Str × Str × Int × Int × Int
abbrev SeatT := Int × Str
abbrev RuleT := Str × Int × List SeatT
def rankD (r : RankT) : PyData := .tuple [.int r.1, .str r.2.1, .int r.2.2.1, .str r.2.2.2.1, .int r.2.2.2.2.1, .int r.2.2.2.2.2]
def leaveD (r : LeaveT) : PyData := .tuple [.int r.1, .str r.2.1, .str r.2.2.1, .str r.2.2.2.1, .int r.2.2.2.2.1, .int r.2.2.2.2.2.1, .int r.2.2.2.2.2.2]
def seatD (s : SeatT) : PyData := .tuple [.int s.1, .str s.2]
def seatsD (ss : List SeatT) : PyData := .tuple (ss.map seatD)
def ruleD (r : RuleT) : PyData := .tuple [.str r.1, .int r.2.1, seatsD r.2.2]
def partD (p : Str × Str) : PyData := .tuple [.str p.1, .str p.2]
structure HouseT where
  ps : List (Str × Str)
  ranks : List RankT
  leaves : List LeaveT
  rules : List RuleT
def houseD (h : HouseT) : PyData := .tuple [.tuple (h.ps.map partD), .tuple (h.ranks.map rankD), .tuple (h.leaves.map leaveD), .tuple (h.rules.map ruleD)]
structure RankOk (zs own : List Str) (r : RankT) : Prop where
  num : 0 ≤ r.1 ∧ r.1 ≤ 2000
  who : r.2.1 ∈ zs
  rank : 1 ≤ r.2.2.1 ∧ r.2.2.1 ≤ 9
  part : r.2.2.2.1 ∈ own
  days : 0 ≤ r.2.2.2.2.1 ∧ r.2.2.2.2.1 ≤ r.2.2.2.2.2 ∧ r.2.2.2.2.2 ≤ 99999
structure LeaveOk (zs own : List Str) (r : LeaveT) : Prop where
  num : 0 ≤ r.1 ∧ r.1 ≤ 2000
  giver : r.2.1 ∈ zs
  taker : r.2.2.1 ∈ zs
  ne : r.2.1 ≠ r.2.2.1
  part : r.2.2.2.1 ∈ own
  days : 0 ≤ r.2.2.2.2.1 ∧ r.2.2.2.2.1 ≤ r.2.2.2.2.2.1 ∧ r.2.2.2.2.2.1 ≤ 99999
  most : 0 ≤ r.2.2.2.2.2.2 ∧ r.2.2.2.2.2.2 ≤ 1000000000
def SeatOk (own : List Str) (s : SeatT) : Prop := 1 ≤ s.1 ∧ s.1 ≤ 9 ∧ (s.2 = Str.ofString "" ∨ s.2 ∈ own)
structure RuleOk (own : List Str) (r : RuleT) : Prop where
  part : r.1 ∈ own
  sum : 0 ≤ r.2.1 ∧ r.2.1 ≤ 1000000000
  many : r.2.2.length ≤ 6
  seats : ∀ s ∈ r.2.2, SeatOk own s
/-- what is drawn as a house of these names, its parts as they were drawn -/
structure HouseGen (zs : List Str) (ps : List (Str × Str)) (h : HouseT) : Prop where
  parts : h.ps.Perm ps
  p8 : ps.length ≤ 8
  r20 : h.ranks.length ≤ 20
  l16 : h.leaves.length ≤ 16
  u10 : h.rules.length ≤ 10
  ranks : ∀ r ∈ h.ranks, RankOk zs (ps.map (·.1)) r
  rup : (h.ranks.map (·.1)).Pairwise (· < ·)
  leaves : ∀ r ∈ h.leaves, LeaveOk zs (ps.map (·.1)) r
  lup : (h.leaves.map (·.1)).Pairwise (· < ·)
  rules : ∀ r ∈ h.rules, RuleOk (ps.map (·.1)) r
  pup : (h.ps.map fun p => ([.inr p.1, .inr p.2] : List Key)).Pairwise (fun a b => ksLt b a = false)
  uup : (h.rules.map fun r => ([.inr r.1, .inl r.2.1] : List Key)).Pairwise (fun a b => ksLt b a = false)
  unlike : (h.rules.map fun r => (r.1, r.2.1)).Nodup
theorem em_sm : Sm 8 (Str.ofString "") := by
  have e : (Str.ofString "").cps.toList = [] := by decide +kernel
  refine ⟨fun c hc => ?_, by decide +kernel⟩
  rw [e] at hc
  exact absurd hc (by simp)
theorem house_shw {zs : List Str} {ps : List (Str × Str)} {h : HouseT} (hz : ∀ z ∈ zs, nameB z = true) (hp : PartsOk zs ps) (g : HouseGen zs ps h) : Shw 5 200000 (houseD h) := by
  have sz : ∀ z ∈ zs, Sm 8 z := fun z hm => Sm.name (hz z hm)
  have pz : ∀ x ∈ ps, Sm 8 x.1 ∧ Sm 8 x.2 := fun x hx => by
    obtain ⟨i, hi, rfl⟩ := List.getElem_of_mem hx
    obtain ⟨e1, e2⟩ := hp i ps[i] (List.getElem?_eq_getElem hi)
    refine ⟨sz _ (List.mem_of_getElem? e1), ?_⟩
    rcases e2 with e2 | ⟨j, _, e2⟩
    · rw [e2]
      exact em_sm
    · exact sz _ (List.mem_of_getElem? e2)
  have oz : ∀ z ∈ ps.map (·.1), Sm 8 z := fun z hm => by
    obtain ⟨x, hx, rfl⟩ := List.mem_map.mp hm
    exact (pz x hx).1
  have int' : ∀ {i : Int}, 0 ≤ i → i < 10 ^ 12 → Shw 0 82 (.int i) := fun a b => (shw_int a b).mono (Nat.le_refl _) (by decide)
  have s1 : Shw 2 (8 * (171 + 2) + 3) (.tuple (h.ps.map partD)) := by
    refine shw_tup (e := 1) (B := 171) (fun d hd => ?_) (by rw [List.length_map, g.parts.length_eq]; exact g.p8)
    obtain ⟨x, hx, rfl⟩ := List.mem_map.mp hd
    have := pz x (g.parts.mem_iff.mp hx)
    refine shw_tup (e := 0) (B := 82) (C := 2) (fun d hd => ?_) (Nat.le_refl _)
    simp only [List.mem_cons, List.not_mem_nil, or_false] at hd
    rcases hd with rfl | rfl
    · exact shw_str this.1
    · exact shw_str this.2
  have s2 : Shw 2 (20 * (507 + 2) + 3) (.tuple (h.ranks.map rankD)) := by
    refine shw_tup (e := 1) (B := 507) (fun d hd => ?_) (by rw [List.length_map]; exact g.r20)
    obtain ⟨x, hx, rfl⟩ := List.mem_map.mp hd
    have k := g.ranks x hx
    refine shw_tup (e := 0) (B := 82) (C := 6) (fun d hd => ?_) (Nat.le_refl _)
    have k1 := k.num
    have k3 := k.rank
    have k5 := k.days
    simp only [List.mem_cons, List.not_mem_nil, or_false] at hd
    rcases hd with rfl | rfl | rfl | rfl | rfl | rfl
    · exact int' (by omega) (by omega)
    · exact shw_str (sz _ k.who)
    · exact int' (by omega) (by omega)
    · exact shw_str (oz _ k.part)
    · exact int' (by omega) (by omega)
    · exact int' (by omega) (by omega)
  have s3 : Shw 2 (16 * (591 + 2) + 3) (.tuple (h.leaves.map leaveD)) := by
    refine shw_tup (e := 1) (B := 591) (fun d hd => ?_) (by rw [List.length_map]; exact g.l16)
    obtain ⟨x, hx, rfl⟩ := List.mem_map.mp hd
    have k := g.leaves x hx
    refine shw_tup (e := 0) (B := 82) (C := 7) (fun d hd => ?_) (Nat.le_refl _)
    have k1 := k.num
    have k3 := k.most
    have k5 := k.days
    simp only [List.mem_cons, List.not_mem_nil, or_false] at hd
    rcases hd with rfl | rfl | rfl | rfl | rfl | rfl | rfl
    · exact int' (by omega) (by omega)
    · exact shw_str (sz _ k.giver)
    · exact shw_str (sz _ k.taker)
    · exact shw_str (oz _ k.part)
    · exact int' (by omega) (by omega)
    · exact int' (by omega) (by omega)
    · exact int' (by omega) (by omega)
  have s4 : Shw 4 (10 * (3132 + 2) + 3) (.tuple (h.rules.map ruleD)) := by
    refine shw_tup (e := 3) (B := 3132) (fun d hd => ?_) (by rw [List.length_map]; exact g.u10)
    obtain ⟨x, hx, rfl⟩ := List.mem_map.mp hd
    have k := g.rules x hx
    have k2 := k.sum
    have st : Shw 2 (6 * (171 + 2) + 3) (seatsD x.2.2) := by
      refine shw_tup (e := 1) (B := 171) (fun d hd => ?_) (by rw [List.length_map]; exact k.many)
      obtain ⟨y, hy, rfl⟩ := List.mem_map.mp hd
      obtain ⟨y1, y2, y3⟩ := k.seats y hy
      refine shw_tup (e := 0) (B := 82) (C := 2) (fun d hd => ?_) (Nat.le_refl _)
      simp only [List.mem_cons, List.not_mem_nil, or_false] at hd
      rcases hd with rfl | rfl
      · exact int' (by omega) (by omega)
      · rcases y3 with y3 | y3
        · rw [y3]
          exact shw_str em_sm
        · exact shw_str (oz _ y3)
    refine (shw_tup (e := 2) (B := 1041) (C := 3) (ds := [.str x.1, .int x.2.1, seatsD x.2.2]) (fun d hd => ?_) (Nat.le_refl _)).mono (by decide) (by decide)
    simp only [List.mem_cons, List.not_mem_nil, or_false] at hd
    rcases hd with rfl | rfl | rfl
    · exact (shw_str (oz _ k.part)).mono (by decide) (by decide)
    · exact (int' (by omega) (by omega)).mono (by decide) (by decide)
    · exact st.mono (by decide) (by decide)
  refine (shw_tup (e := 4) (B := 32000) (C := 4) (ds := [.tuple (h.ps.map partD), .tuple (h.ranks.map rankD), .tuple (h.leaves.map leaveD), .tuple (h.rules.map ruleD)]) (fun d hd => ?_) (Nat.le_refl _)).mono (by decide) (by decide)
  simp only [List.mem_cons, List.not_mem_nil, or_false] at hd
  rcases hd with rfl | rfl | rfl | rfl
  · exact s1.mono (by decide) (by decide)
  · exact s2.mono (by decide) (by decide)
  · exact s3.mono (by decide) (by decide)
  · exact s4.mono (by decide) (by decide)
/-! ### tuples stay -/
mutual
def noL : PyData → Bool
  | .list _ => false
  | .dict _ => false
  | .tuple ds => noLs ds
  | _ => true
def noLs : List PyData → Bool
  | [] => true
  | d :: ds => noL d && noLs ds
end
structure TS (H H' : Hp) : Prop where
  tup : ∀ b ys, H b = some (.tup ys) → H' b = some (.tup ys)
  frz : ∀ b o u, H b = some (.frz o u) → H' b = some (.frz o u)
theorem TS.trans {H H1 H2 : Hp} (a : TS H H1) (b : TS H1 H2) : TS H H2 := ⟨fun x y e => b.tup _ _ (a.tup _ _ e), fun x o u e => b.frz _ _ _ (a.frz _ _ _ e)⟩
theorem _root_.L2.Same.ts {H H' : Hp} (s : Same H H') : TS H H' := ⟨fun _ _ e => s _ _ e, fun _ _ _ e => s _ _ e⟩
theorem _root_.L2.Ext.ts {p : Addr} {H H' : Hp} {xs : List V} (x : Ext p H H') (h : H p = some (.lst xs)) : TS H H' := ⟨fun b _ e => x _ _ e (ne_of e h (by simp)), fun b _ _ e => x _ _ e (ne_of e h (by simp))⟩
theorem upd_ts_l {H : Hp} {L : Addr} {xs : List V} {o : HO} (h : H L = some (.lst xs)) : TS H (upd H L o) := ⟨fun b _ e => by rw [upd_ne (ne_of e h (by simp))]; exact e, fun b _ _ e => by rw [upd_ne (ne_of e h (by simp))]; exact e⟩
theorem upd_ts_d {H : Hp} {L : Addr} {xs : List (List Key × V)} {o : HO} (h : H L = some (.dT xs)) : TS H (upd H L o) := ⟨fun b _ e => by rw [upd_ne (ne_of e h (by simp))]; exact e, fun b _ _ e => by rw [upd_ne (ne_of e h (by simp))]; exact e⟩
mutual
theorem rd_ts {H H' : Hp} (t : TS H H') : ∀ {d : PyData} {v : V}, noL d = true → RX H d v → RX H' d v
  | .none, _, _, h => h
  | .bool _, _, _, h => h
  | .int _, _, _, h => h
  | .str _, _, _, h => h
  | .dict _, _, hn, _ => by simp [noL] at hn
  | .list _, _, hn, _ => by simp [noL] at hn
  | .tuple ds, v, hn, h => by
    obtain ⟨a, vs, e1, q, r⟩ := h
    exact ⟨a, vs, e1, t.tup _ _ q, rds_ts t (by simpa [noL] using hn) r⟩
theorem rds_ts {H H' : Hp} (t : TS H H') : ∀ {ds : List PyData} {vs : List V}, noLs ds = true → RXs H ds vs → RXs H' ds vs
  | [], _, _, h => h
  | d :: ds, vs, hn, h => by
    obtain ⟨v, r, e1, q, s⟩ := h
    have hn' : noL d = true ∧ noLs ds = true := by simpa [noLs] using hn
    exact ⟨v, r, e1, rd_ts t hn'.1 q, rds_ts t hn'.2 s⟩
end
theorem rds_snoc {H : Hp} {d : PyData} {v : V} (hv : RX H d v) : ∀ {ds : List PyData} {vs : List V}, RXs H ds vs → RXs H (ds ++ [d]) (vs ++ [v])
  | [], _, h => by
    cases (show _ = [] from h)
    exact ⟨v, [], rfl, hv, rfl⟩
  | e :: ds, vs, h => by
    obtain ⟨u, r, e1, q, s⟩ := h
    subst e1
    exact ⟨u, r ++ [v], rfl, q, rds_snoc hv s⟩
theorem rds_len {H : Hp} : ∀ {ds : List PyData} {vs : List V}, RXs H ds vs → vs.length = ds.length
  | [], _, h => by cases (show _ = [] from h); rfl
  | e :: ds, vs, h => by
    obtain ⟨u, r, e1, q, s⟩ := h
    subst e1
    rw [List.length_cons, List.length_cons, rds_len s]
theorem noLs_map {α : Type} {f : α → PyData} (h : ∀ a, noL (f a) = true) : ∀ l : List α, noLs (l.map f) = true
  | [] => rfl
  | a :: l => by rw [List.map_cons, noLs, h a, noLs_map h l]; rfl
theorem noL_rank (r : RankT) : noL (rankD r) = true := rfl
theorem noL_leave (r : LeaveT) : noL (leaveD r) = true := rfl
theorem noL_seat (r : SeatT) : noL (seatD r) = true := rfl
theorem noL_seats (r : List SeatT) : noL (seatsD r) = true := by unfold seatsD; rw [noL]; exact noLs_map noL_seat r
theorem noL_rule (r : RuleT) : noL (ruleD r) = true := by unfold ruleD; simp [noL, noLs, noL_seats]
/-! ### a house in the making -/
structure RuleV (H : Hp) (own : List Str) (kv : List Key × V) : Prop where
  ex : ∃ r : RuleT, kv.1 = [.inr r.1, .inl r.2.1] ∧ RuleOk own r ∧ RX H (seatsD r.2.2) kv.2
structure HI (H0 H : Hp) (p nl L O R V' U : Addr) (n : Int) (zs : List Str) (rows : List PRow) (rks : List RankT) (lvs : List LeaveT) (kvs : List (List Key × V)) : Prop where
  box : Box H p n
  hnl : H nl = some (.lst (zs.map V.str))
  pr : PRows H L rows
  own : H O = some (.lst ((rows.map (·.2.1)).map V.str))
  rk : ∃ vs, H R = some (.lst vs) ∧ RXs H (rks.map rankD) vs
  lv : ∃ vs, H V' = some (.lst vs) ∧ RXs H (lvs.map leaveD) vs
  ru : H U = some (.dT kvs)
  rv : ∀ kv ∈ kvs, RuleV H (rows.map (·.2.1)) kv
  kn : (kvs.map (·.1)).Nodup
  x0 : Ext p H0 H
  fr : ∀ b ∈ [L, O, R, V', U], H0 b = none
  nd : [p, nl, L, O, R, V', U].Nodup
section
variable {H0 H H' : Hp} {p nl L O R V' U : Addr} {n m : Int} {zs : List Str} {rows : List PRow} {rks : List RankT} {lvs : List LeaveT} {kvs : List (List Key × V)}
theorem HI.ext (h : HI H0 H p nl L O R V' U n zs rows rks lvs kvs) (x : Ext p H H') (b : Box H' p m) : HI H0 H' p nl L O R V' U m zs rows rks lvs kvs := by
  obtain ⟨c1, c2, c3, hp, _⟩ := id h.box
  have t := x.ts hp
  have nd := h.nd
  simp only [List.nodup_cons, List.mem_cons, not_or, List.not_mem_nil, not_false_eq_true] at nd
  obtain ⟨⟨n1, n2, n3, n4, n5, n6, _⟩, _⟩ := nd
  obtain ⟨v1, r1, r2⟩ := h.rk
  obtain ⟨v3, r3, r4⟩ := h.lv
  refine ⟨b, x _ _ h.hnl (Ne.symm n1), ⟨x _ _ h.pr.lst (Ne.symm n2), fun r hr => t.tup _ _ (h.pr.tup r hr)⟩, x _ _ h.own (Ne.symm n3), ⟨v1, x _ _ r1 (Ne.symm n4), rds_ts t (noLs_map noL_rank _) r2⟩, ⟨v3, x _ _ r3 (Ne.symm n5), rds_ts t (noLs_map noL_leave _) r4⟩, x _ _ h.ru (Ne.symm n6), fun kv hk => ?_, h.kn, h.x0.trans x, h.fr, h.nd⟩
  obtain ⟨r, e1, e2, e3⟩ := (h.rv kv hk).ex
  exact ⟨r, e1, e2, rd_ts t (noL_seats _) e3⟩
theorem HI.same (h : HI H0 H p nl L O R V' U n zs rows rks lvs kvs) (s : Same H H') : HI H0 H' p nl L O R V' U n zs rows rks lvs kvs := h.ext s.ext (h.box.same s)
theorem HI.putR (h : HI H0 H p nl L O R V' U n zs rows rks lvs kvs) {vs : List V} {r : RankT} {v : V} (e : H R = some (.lst vs)) (e2 : RXs H (rks.map rankD) vs) (hv : RX H (rankD r) v) :
    HI H0 (upd H R (.lst (vs ++ [v]))) p nl L O R V' U n zs rows (rks ++ [r]) lvs kvs := by
  have t := upd_ts_l (o := .lst (vs ++ [v])) e
  have nd := h.nd
  simp only [List.nodup_cons, List.mem_cons, not_or, List.not_mem_nil, not_false_eq_true] at nd
  obtain ⟨⟨n1, n2, n3, n4, n5, n6, _⟩, ⟨n7, n8, n9, n10, n11, _⟩, ⟨n12, n13, n14, n15, _⟩, ⟨n16, n17, n18, _⟩, ⟨n19, n20, _⟩, _⟩ := nd
  obtain ⟨v3, r3, r4⟩ := h.lv
  refine ⟨h.box.at (upd_ne n4), by rw [upd_ne n9]; exact h.hnl, ⟨by rw [upd_ne n13]; exact h.pr.lst, fun r hr => t.tup _ _ (h.pr.tup r hr)⟩, by rw [upd_ne n16]; exact h.own, ⟨_, upd_same, ?_⟩, ⟨v3, by rw [upd_ne (Ne.symm n19)]; exact r3, rds_ts t (noLs_map noL_leave _) r4⟩, by rw [upd_ne (Ne.symm n20)]; exact h.ru, fun kv hk => ?_, h.kn, fun b o eb hb => ?_, h.fr, h.nd⟩
  · rw [List.map_append]
    exact rds_snoc (rd_ts t (noL_rank _) hv) (rds_ts t (noLs_map noL_rank _) e2)
  · obtain ⟨r, e1, e2, e3⟩ := (h.rv kv hk).ex
    exact ⟨r, e1, e2, rd_ts t (noL_seats _) e3⟩
  · rw [upd_ne (ne_of_none eb (h.fr R (by simp)))]
    exact h.x0 _ _ eb hb
theorem HI.putL (h : HI H0 H p nl L O R V' U n zs rows rks lvs kvs) {vs : List V} {r : LeaveT} {v : V} (e : H V' = some (.lst vs)) (e2 : RXs H (lvs.map leaveD) vs) (hv : RX H (leaveD r) v) :
    HI H0 (upd H V' (.lst (vs ++ [v]))) p nl L O R V' U n zs rows rks (lvs ++ [r]) kvs := by
  have t := upd_ts_l (o := .lst (vs ++ [v])) e
  have nd := h.nd
  simp only [List.nodup_cons, List.mem_cons, not_or, List.not_mem_nil, not_false_eq_true] at nd
  obtain ⟨⟨n1, n2, n3, n4, n5, n6, _⟩, ⟨n7, n8, n9, n10, n11, _⟩, ⟨n12, n13, n14, n15, _⟩, ⟨n16, n17, n18, _⟩, ⟨n19, n20, _⟩, ⟨n21, _⟩, _⟩ := nd
  obtain ⟨v3, r3, r4⟩ := h.rk
  refine ⟨h.box.at (upd_ne n5), by rw [upd_ne n10]; exact h.hnl, ⟨by rw [upd_ne n14]; exact h.pr.lst, fun r hr => t.tup _ _ (h.pr.tup r hr)⟩, by rw [upd_ne n17]; exact h.own, ⟨v3, by rw [upd_ne n19]; exact r3, rds_ts t (noLs_map noL_rank _) r4⟩, ⟨_, upd_same, ?_⟩, by rw [upd_ne (Ne.symm n21)]; exact h.ru, fun kv hk => ?_, h.kn, fun b o eb hb => ?_, h.fr, h.nd⟩
  · rw [List.map_append]
    exact rds_snoc (rd_ts t (noL_leave _) hv) (rds_ts t (noLs_map noL_leave _) e2)
  · obtain ⟨r, e1, e2, e3⟩ := (h.rv kv hk).ex
    exact ⟨r, e1, e2, rd_ts t (noL_seats _) e3⟩
  · rw [upd_ne (ne_of_none eb (h.fr V' (by simp)))]
    exact h.x0 _ _ eb hb
theorem put_keys {kvs : List (List Key × V)} {k : List Key} {v : V} : (putK kvs k v).map (·.1) = kvs.map (·.1) ∨ (k ∉ kvs.map (·.1) ∧ (putK kvs k v).map (·.1) = kvs.map (·.1) ++ [k]) := by
  unfold putK
  by_cases h : (kvs.any fun kv => decide (kv.1 = k)) = true
  · left
    rw [if_pos h, List.map_map]
    refine List.map_congr_left fun x _ => ?_
    simp only [Function.comp]
    split <;> rfl
  · right
    refine ⟨fun hm => h ?_, by rw [if_neg h, List.map_append]; rfl⟩
    obtain ⟨x, hx, e⟩ := List.mem_map.mp hm
    exact List.any_eq_true.mpr ⟨x, hx, decide_eq_true e⟩
theorem HI.putU (h : HI H0 H p nl L O R V' U n zs rows rks lvs kvs) {r : RuleT} {v : V} (hok : RuleOk (rows.map (·.2.1)) r) (hv : RX H (seatsD r.2.2) v) :
    HI H0 (upd H U (.dT (putK kvs [.inr r.1, .inl r.2.1] v))) p nl L O R V' U n zs rows rks lvs (putK kvs [.inr r.1, .inl r.2.1] v) := by
  have t := upd_ts_d (o := .dT (putK kvs [.inr r.1, .inl r.2.1] v)) h.ru
  have nd := h.nd
  simp only [List.nodup_cons, List.mem_cons, not_or, List.not_mem_nil, not_false_eq_true] at nd
  obtain ⟨⟨n1, n2, n3, n4, n5, n6, _⟩, ⟨n7, n8, n9, n10, n11, _⟩, ⟨n12, n13, n14, n15, _⟩, ⟨n16, n17, n18, _⟩, ⟨n19, n20, _⟩, ⟨n21, _⟩, _⟩ := nd
  obtain ⟨v1, r1, r2⟩ := h.rk
  obtain ⟨v3, r3, r4⟩ := h.lv
  refine ⟨h.box.at (upd_ne n6), by rw [upd_ne n11]; exact h.hnl, ⟨by rw [upd_ne n15]; exact h.pr.lst, fun r hr => t.tup _ _ (h.pr.tup r hr)⟩, by rw [upd_ne n18]; exact h.own, ⟨v1, by rw [upd_ne n20]; exact r1, rds_ts t (noLs_map noL_rank _) r2⟩, ⟨v3, by rw [upd_ne n21]; exact r3, rds_ts t (noLs_map noL_leave _) r4⟩, upd_same, fun kv hk => ?_, ?_, fun b o eb hb => ?_, h.fr, h.nd⟩
  · have hm : kv = ([.inr r.1, .inl r.2.1], v) ∨ kv ∈ kvs := by
      unfold putK at hk
      split at hk
      · obtain ⟨x, hx, e⟩ := List.mem_map.mp hk
        split at e
        · rename_i hx1
          left
          rw [← e, hx1]
        · right
          rw [← e]
          exact hx
      · rcases List.mem_append.mp hk with hk | hk
        · exact .inr hk
        · exact .inl (List.mem_singleton.mp hk)
    rcases hm with rfl | hm
    · exact ⟨r, rfl, hok, rd_ts t (noL_seats _) hv⟩
    · obtain ⟨r, e1, e2, e3⟩ := (h.rv kv hm).ex
      exact ⟨r, e1, e2, rd_ts t (noL_seats _) e3⟩
  · rcases put_keys (kvs := kvs) (k := [.inr r.1, .inl r.2.1]) (v := v) with e | ⟨hn, e⟩
    · rw [e]
      exact h.kn
    · rw [e, List.nodup_append]
      refine ⟨h.kn, by simp, fun a ha b hb e => ?_⟩
      rw [List.mem_singleton.mp hb] at e
      exact hn (by rw [← e]; exact ha)
  · rw [upd_ne (ne_of_none eb (h.fr U (by simp)))]
    exact h.x0 _ _ eb hb
theorem HI.aside (h : HI H0 H p nl L O R V' U n zs rows rks lvs kvs) {S : Addr} {xs ys : List V} (e : H S = some (.lst xs)) (hS : S ∉ [p, nl, L, O, R, V', U]) (h0 : H0 S = none) : HI H0 (upd H S (.lst ys)) p nl L O R V' U n zs rows rks lvs kvs := by
  have t := upd_ts_l (o := .lst ys) e
  simp only [List.mem_cons, not_or, List.not_mem_nil, not_false_eq_true] at hS
  obtain ⟨n1, n2, n3, n4, n5, n6, n7, _⟩ := hS
  obtain ⟨v1, r1, r2⟩ := h.rk
  obtain ⟨v3, r3, r4⟩ := h.lv
  refine ⟨h.box.at (upd_ne (Ne.symm n1)), by rw [upd_ne (Ne.symm n2)]; exact h.hnl, ⟨by rw [upd_ne (Ne.symm n3)]; exact h.pr.lst, fun r hr => t.tup _ _ (h.pr.tup r hr)⟩, by rw [upd_ne (Ne.symm n4)]; exact h.own, ⟨v1, by rw [upd_ne (Ne.symm n5)]; exact r1, rds_ts t (noLs_map noL_rank _) r2⟩, ⟨v3, by rw [upd_ne (Ne.symm n6)]; exact r3, rds_ts t (noLs_map noL_leave _) r4⟩, by rw [upd_ne (Ne.symm n7)]; exact h.ru, fun kv hk => ?_, h.kn, fun b o eb hb => ?_, h.fr, h.nd⟩
  · obtain ⟨r, e1, e2, e3⟩ := (h.rv kv hk).ex
    exact ⟨r, e1, e2, rd_ts t (noL_seats _) e3⟩
  · rw [upd_ne (ne_of_none eb h0)]
    exact h.x0 _ _ eb hb
theorem HI.fresh (h : HI H0 H p nl L O R V' U n zs rows rks lvs kvs) {S : Addr} (e : H S = none) : S ∉ [p, nl, L, O, R, V', U] ∧ H0 S = none := by
  obtain ⟨c1, c2, c3, hp, _⟩ := id h.box
  obtain ⟨v1, r1, r2⟩ := h.rk
  obtain ⟨v3, r3, r4⟩ := h.lv
  constructor
  · simp only [List.mem_cons, not_or, List.not_mem_nil, not_false_eq_true, and_true]
    exact ⟨(ne_of_none hp e).symm, (ne_of_none h.hnl e).symm, (ne_of_none h.pr.lst e).symm, (ne_of_none h.own e).symm, (ne_of_none r1 e).symm, (ne_of_none r3 e).symm, (ne_of_none h.ru e).symm⟩
  · cases e0 : H0 S with
    | none => rfl
    | some o =>
      have := h.x0 _ _ e0 (ne_of_none hp e).symm
      rw [e] at this
      cases this
end
theorem two_sorted {ns : List Int} {x y : Int} (h : ns.Perm [x, y]) (pw : ns.Pairwise (· ≤ ·)) : ∃ a b, ns = [a, b] ∧ a ≤ b ∧ (a = x ∨ a = y) ∧ (b = x ∨ b = y) := by
  have hl := h.length_eq
  match ns, hl, pw, h with
  | [a, b], _, pw, h =>
    have ha : a ∈ [x, y] := h.mem_iff.mp (by simp)
    have hb : b ∈ [x, y] := h.mem_iff.mp (by simp)
    have hab : a ≤ b := by
      rw [List.pairwise_cons] at pw
      exact pw.1 b (by simp)
    exact ⟨a, b, rfl, hab, by simpa using ha, by simpa using hb⟩
theorem rd_six {H : Hp} {t : Addr} {a c e f : Int} {b d : Str} (h : H t = some (.tup [.int a, .str b, .int c, .str d, .int e, .int f])) : RX H (rankD (a, b, c, d, e, f)) (.ref t) :=
  ⟨t, _, rfl, h, _, _, rfl, rfl, _, _, rfl, rfl, _, _, rfl, rfl, _, _, rfl, rfl, _, _, rfl, rfl, _, _, rfl, rfl, rfl⟩
theorem rd_seven {H : Hp} {t : Addr} {a e f g : Int} {b c d : Str} (h : H t = some (.tup [.int a, .str b, .str c, .str d, .int e, .int f, .int g])) : RX H (leaveD (a, b, c, d, e, f, g)) (.ref t) :=
  ⟨t, _, rfl, h, _, _, rfl, rfl, _, _, rfl, rfl, _, _, rfl, rfl, _, _, rfl, rfl, _, _, rfl, rfl, _, _, rfl, rfl, _, _, rfl, rfl, rfl⟩
theorem rd_two {H : Hp} {t : Addr} {a : Int} {b : Str} (h : H t = some (.tup [.int a, .str b])) : RX H (seatD (a, b)) (.ref t) := ⟨t, _, rfl, h, _, _, rfl, rfl, _, _, rfl, rfl, rfl⟩
end K02

set_option maxHeartbeats 4000000
namespace K02
open PySem L2
structure HouseP (vs : List V) (H : Hp) (Q : VK) : Prop where
  ex : ∃ (p nl : Addr) (n : Int) (zs : List Str), vs = [.ref p, .ref nl] ∧ Box H p n ∧ n < 10000 ∧ H nl = some (.lst (zs.map V.str)) ∧ zs.length = 9 ∧ Names zs ∧
    ∀ (t L h : Addr) (rows : List PRow) (hd : HouseT) (H' : Hp), H t = none → H L = none → H' t = some (.tup [.ref L, .ref h]) → PRows H' L rows → 1 ≤ rows.length → PartsOk zs (rows.map (·.2)) → HouseGen zs (rows.map (·.2)) hd → RX H' (houseD hd) (.ref h) →
      Box H' p (n + 3000) → Ext p H H' → Q (.ref t) H'
def sp_house : Sp := fun vs H Q _ => HouseP vs H Q
theorem own_at {rows : List PRow} {r : Int} (r0 : 0 ≤ r) (r1 : r < ((rows.map (·.2.1)).map V.str).length) : ∃ z, atI ((rows.map (·.2.1)).map V.str) r = some (.str z) ∧ z ∈ rows.map (·.2.1) := by
  have hr : r.toNat < (rows.map (·.2.1)).length := by
    rw [List.length_map] at r1
    omega
  have := str_at (List.getElem?_eq_getElem hr)
  rw [Int.toNat_of_nonneg r0] at this
  exact ⟨_, this, List.getElem_mem hr⟩
theorem name_at {zs : List Str} {r : Int} (r0 : 0 ≤ r) (r1 : r < zs.length) : ∃ z, atI (zs.map V.str) r = some (.str z) ∧ zs[r.toNat]? = some z := by
  have hr : r.toNat < zs.length := by omega
  have := str_at (List.getElem?_eq_getElem hr)
  rw [Int.toNat_of_nonneg r0] at this
  exact ⟨_, this, List.getElem?_eq_getElem hr⟩
theorem nine_three {r : Int} (r0 : 0 ≤ r) (r1 : r < 2) : ∃ k : Int, atI ([.int 9, .int 3] : List V) r = some (.int k) ∧ 1 ≤ k ∧ k ≤ 9 := by
  obtain ⟨v, hv, e⟩ := two_at (.int 9) (.int 3) r0 r1
  rcases e with rfl | rfl
  · exact ⟨9, hv, by decide, by decide⟩
  · exact ⟨3, hv, by decide, by decide⟩
theorem valV_mem {kvs : List (List Key × V)} {k : List Key} (h : k ∈ kvs.map (·.1)) : ∃ v, valV kvs k = some v ∧ (k, v) ∈ kvs := by
  induction kvs with
  | nil => simp at h
  | cons x r ih =>
    by_cases e : x.1 = k
    · exact ⟨x.2, valV_pos e, by rw [← e]; exact List.mem_cons_self⟩
    · rw [List.map_cons] at h
      rcases List.mem_cons.mp h with h | h
      · exact absurd h.symm e
      · obtain ⟨v, h1, h2⟩ := ih h
        exact ⟨v, (valV_neg e).trans h1, List.mem_cons_of_mem _ h2⟩
theorem rds_refs {H : Hp} {f : Row → PyData} : ∀ {l : List Row}, (∀ r ∈ l, RX H (f r) (.ref r.1)) → RXs H (l.map f) (l.map fun r => V.ref r.1)
  | [], _ => rfl
  | r :: l, h => ⟨_, _, rfl, h r List.mem_cons_self, rds_refs fun x hx => h x (List.mem_cons_of_mem _ hx)⟩
def unk (r : Row) : Str × Str := match r.2 with | [.inr x, .inr y] => (x, y) | _ => (⟨#[]⟩, ⟨#[]⟩)
def ky (r : PRow) : Row := (r.1, [.inr r.2.1, .inr r.2.2])
inductive HSt (p nl L O R V' U : Addr) : St → Prop
  | mk {v7 v8 v9 v10 v11 v12 v13 v14 v15 v16 v17 v18 : Option V} : HSt p nl L O R V' U [some (.ref p), some (.ref nl), some (.ref L), some (.ref O), some (.ref R), some (.ref V'), some (.ref U), v7, v8, v9, v10, v11, v12, v13, v14, v15, v16, v17, v18]
section
variable {P : Program} {w : World} {K : PySem.W.Frag} {mg : Str → Option Value} {base : Heap} {k_HIGHEST_RANK k_LOWEST_RANK k_MOST_LEAVES k_MOST_LETTERS k_MOST_PARTS k_MOST_RANKS k_MOST_RULES k_MOST_SEATS : Tok}
theorem ok_Lhouse {f : Addr} {fd : FuncData} (F : Fun K "_law_house" "_law_house" s_Lhouse f fd) (T : Txt K mg k_HIGHEST_RANK k_LOWEST_RANK k_MOST_LEAVES k_MOST_LETTERS k_MOST_PARTS k_MOST_RANKS k_MOST_RULES k_MOST_SEATS) (h_Ltake : Has P w K mg base "_law_take" 1 ["_law_box_here", "_law_many_here"] sp_take) (h_Lday : Has P w K mg base "_law_day" 2 ["_law_box_here"] sp_day) (h_Lsum : Has P w K mg base "_law_sum" 2 ["_law_box_here"] sp_sum)
    (h_Lnumbers : Has P w K mg base "_law_numbers" 2 ["_law_box_here", "_law_many_here"] sp_nums) (h_Lmany : Has P w K mg base "_law_many" 2 ["_law_box_here", "_law_most"] sp_many) (h_Lparts : Has P w K mg base "_law_parts" 3 ["_law_box_here", "_law_names_here"] sp_parts) :
    FnOk P w K mg base CX0 4 f fd ["_law_box_here", "_law_names_here"] sp_house := by
  refine F.ok sc_Lhouse (fun vs H Q E h => ?_) (fun cdv A outer s H vs Q E hr h => ?_)
  · obtain ⟨p, nl, n, zs, rfl, _⟩ := h.ex
    rfl
  · obtain ⟨p, nl, n, zs, rfl, hb, hn, hnl, z9, nm, q⟩ := h.ex
    clear h
    refine ⟨_, (pss_cons (ps_set (i := 2) sc_Lhouse.nd rfl (Or.inl rfl) (pe_fn h_Lparts (hr.mono (by decide)) rfl (pa_cons (pv 0) (pa_cons (pv 1) pa_nil)))) (pss_cons (ps_asg (pe_tup (pa_cons (pe_lc (T := .one) (NT := (["_law_row"] : List Str)) (NF := ([] : List Str)) (js := []) (BlkC.ok (N0 := (["_law_box_here", "_law_names_here", "_law_parts_here", "_law_own", "_law_ranks", "_law_leaves", "_law_rules", "_law_number", "_law_days", "_law_who", "_law_where", "_law_at", "_law_taker", "_law_k", "_law_key", "_law_seats", "_law_j", "_law_part", "_law_rows"] : List Str)) (osc := defScope s_Lhouse) (by decide +kernel) rfl rfl) (⟨_, ⟨_, rfl⟩, rfl⟩) rfl (pi_list (pv 2)) (fun b => ⟨pts_nil, (pe_ix ix_tup (pv 0) pe_int (fun _ _ => rfl))⟩)) (pa_cons (pe_lst pa_nil) (pa_cons (pe_lst pa_nil) (pa_cons pe_dnewT pa_nil))))) (pg_tup rfl (pgs_cons (pg_name (i := 3) sc_Lhouse.nd rfl (Or.inl rfl)) (pgs_cons (pg_name (i := 4) sc_Lhouse.nd rfl (Or.inl rfl)) (pgs_cons (pg_name (i := 5) sc_Lhouse.nd rfl (Or.inl rfl)) (pgs_cons (pg_name (i := 6) sc_Lhouse.nd rfl (Or.inr rfl)) pgs_nil)))))) (pss_cons (ps_for PassesOwn.never rfl (pi_list (pe_fn h_Lnumbers (hr.mono (by decide)) rfl (pa_cons (pv 0) (pa_cons (pe_fn h_Lmany (hr.mono (by decide)) rfl (pa_cons (pv 0) (pa_cons pe_int pa_nil))) pa_nil)))) (pg_name (i := 7) sc_Lhouse.nd rfl (Or.inl rfl)) (pss_cons (ps_set (i := 8) sc_Lhouse.nd rfl (Or.inl rfl) (pe_callB call_sorted_ints rfl T.b_sorted (by decide +kernel) (pa_cons (pe_lst (pa_cons (pe_fn h_Lday (hr.mono (by decide)) rfl (pa_cons (pv 0) pa_nil)) (pa_cons (pe_fn h_Lday (hr.mono (by decide)) rfl (pa_cons (pv 0) pa_nil)) pa_nil))) pa_nil))) (pss_cons (ps_par (i := 9) (j := 10) rfl sc_Lhouse.nd rfl rfl (by decide) rfl rfl (pa_cons (pe_ix ix_list (pv 1) (pe_fn h_Ltake (hr.mono (by decide)) rfl (pa_cons (pv 0) (pa_cons pe_int pa_nil))) (fun _ _ => rfl)) (pa_cons (pe_ix ix_list (pv 3) (pe_fn h_Ltake (hr.mono (by decide)) rfl (pa_cons (pv 0) (pa_cons (pe_callB call_len rfl T.b_len (by decide +kernel) (pa_cons (pv 3) pa_nil)) pa_nil))) (fun _ _ => rfl)) pa_nil)) rfl) (pss_one (ps_expr (pe_bm PySem.F.plainAttrs_list PySem.F.slot_list_append PySem.F.type_list_append (MtM.r mt_append) (pv 4) (pa_cons (pe_tup (pa_cons (pv 7) (pa_cons (pv 9) (pa_cons (pe_op op_add pe_int (pe_fn h_Ltake (hr.mono (by decide)) rfl (pa_cons (pv 0) (pa_cons (pe_ix ix_list (pe_lst (pa_cons pe_int (pa_cons pe_int pa_nil))) (pe_fn h_Ltake (hr.mono (by decide)) rfl (pa_cons (pv 0) (pa_cons pe_int pa_nil))) (fun _ _ => rfl)) pa_nil)))) (pa_cons (pv 10) (pa_cons (pe_ix ix_list (pv 8) pe_int (fun _ _ => rfl)) (pa_cons (pe_ix ix_list (pv 8) pe_int (fun _ _ => rfl)) pa_nil))))))) pa_nil))))))) (pss_cons (ps_for PassesOwn.never rfl (pi_list (pe_fn h_Lnumbers (hr.mono (by decide)) rfl (pa_cons (pv 0) (pa_cons (pe_fn h_Lmany (hr.mono (by decide)) rfl (pa_cons (pv 0) (pa_cons pe_int pa_nil))) pa_nil)))) (pg_name (i := 7) sc_Lhouse.nd rfl (Or.inl rfl)) (pss_cons (ps_par (i := 8) (j := 11) rfl sc_Lhouse.nd rfl rfl (by decide) rfl rfl (pa_cons (pe_callB call_sorted_ints rfl T.b_sorted (by decide +kernel) (pa_cons (pe_lst (pa_cons (pe_fn h_Lday (hr.mono (by decide)) rfl (pa_cons (pv 0) pa_nil)) (pa_cons (pe_fn h_Lday (hr.mono (by decide)) rfl (pa_cons (pv 0) pa_nil)) pa_nil))) pa_nil)) (pa_cons (pe_fn h_Ltake (hr.mono (by decide)) rfl (pa_cons (pv 0) (pa_cons pe_int pa_nil))) pa_nil)) rfl) (pss_cons (ps_par (i := 12) (j := 10) rfl sc_Lhouse.nd rfl rfl (by decide) rfl rfl (pa_cons (pe_ix ix_list (pv 1) (pe_op op_mod (pe_op op_add (pe_op op_add (pv 11) pe_int) (pe_fn h_Ltake (hr.mono (by decide)) rfl (pa_cons (pv 0) (pa_cons pe_int pa_nil)))) pe_int) (fun _ _ => rfl)) (pa_cons (pe_ix ix_list (pv 3) (pe_fn h_Ltake (hr.mono (by decide)) rfl (pa_cons (pv 0) (pa_cons (pe_callB call_len rfl T.b_len (by decide +kernel) (pa_cons (pv 3) pa_nil)) pa_nil))) (fun _ _ => rfl)) pa_nil)) rfl) (pss_one (ps_expr (pe_bm PySem.F.plainAttrs_list PySem.F.slot_list_append PySem.F.type_list_append (MtM.r mt_append) (pv 5) (pa_cons (pe_tup (pa_cons (pv 7) (pa_cons (pe_ix ix_list (pv 1) (pv 11) (fun _ _ => rfl)) (pa_cons (pv 12) (pa_cons (pv 10) (pa_cons (pe_ix ix_list (pv 8) pe_int (fun _ _ => rfl)) (pa_cons (pe_ix ix_list (pv 8) pe_int (fun _ _ => rfl)) (pa_cons (pe_fn h_Lsum (hr.mono (by decide)) rfl (pa_cons (pv 0) pa_nil)) pa_nil)))))))) pa_nil))))))) (pss_cons (ps_for PassesOwn.never rfl (pi_range1 rfl T.b_range (pa_cons (pe_fn h_Lmany (hr.mono (by decide)) rfl (pa_cons (pv 0) (pa_cons pe_int pa_nil))) pa_nil)) (pg_name (i := 13) sc_Lhouse.nd rfl (Or.inl rfl)) (pss_cons (ps_par (i := 14) (j := 15) rfl sc_Lhouse.nd rfl rfl (by decide) rfl rfl (pa_cons (pe_tup (pa_cons (pe_ix ix_list (pv 3) (pe_fn h_Ltake (hr.mono (by decide)) rfl (pa_cons (pv 0) (pa_cons (pe_callB call_len rfl T.b_len (by decide +kernel) (pa_cons (pv 3) pa_nil)) pa_nil))) (fun _ _ => rfl)) (pa_cons (pe_fn h_Lsum (hr.mono (by decide)) rfl (pa_cons (pv 0) pa_nil)) pa_nil))) (pa_cons (pe_lst pa_nil) pa_nil)) rfl) (pss_cons (ps_for PassesOwn.never rfl (pi_range1 rfl T.b_range (pa_cons (pe_fn h_Lmany (hr.mono (by decide)) rfl (pa_cons (pv 0) (pa_cons pe_int pa_nil))) pa_nil)) (pg_name (i := 16) sc_Lhouse.nd rfl (Or.inl rfl)) (pss_cons (ps_set (i := 17) sc_Lhouse.nd rfl (Or.inl rfl) (pe_ix ix_list (pe_op op_cat (pe_lst (pa_cons pe_str (pa_cons pe_str pa_nil))) (pv 3)) (pe_fn h_Ltake (hr.mono (by decide)) rfl (pa_cons (pv 0) (pa_cons (pe_op op_add pe_int (pe_callB call_len rfl T.b_len (by decide +kernel) (pa_cons (pv 3) pa_nil))) pa_nil))) (fun _ _ => rfl))) (pss_one (ps_expr (pe_bm PySem.F.plainAttrs_list PySem.F.slot_list_append PySem.F.type_list_append (MtM.r mt_append) (pv 15) (pa_cons (pe_tup (pa_cons (pe_op op_add pe_int (pe_fn h_Ltake (hr.mono (by decide)) rfl (pa_cons (pv 0) (pa_cons (pe_ix ix_list (pe_lst (pa_cons pe_int (pa_cons pe_int pa_nil))) (pe_fn h_Ltake (hr.mono (by decide)) rfl (pa_cons (pv 0) (pa_cons pe_int pa_nil))) (fun _ _ => rfl)) pa_nil)))) (pa_cons (pv 17) pa_nil))) pa_nil)))))) (pss_one (ps_dput hr.units1 (pv 6) (pv 14) (pe_callTy call_tuple_of rfl T.b_tuple (by decide +kernel) (pa_cons (pv 15) pa_nil)) (by rfl)))))) (pss_cons (ps_setLC (i := 18) (T := .one) (NT := (["_law_key"] : List Str)) (NF := (["_law_rules"] : List Str)) (js := [6]) (BlkC.ok (N0 := (["_law_box_here", "_law_names_here", "_law_parts_here", "_law_own", "_law_ranks", "_law_leaves", "_law_rules", "_law_number", "_law_days", "_law_who", "_law_where", "_law_at", "_law_taker", "_law_k", "_law_key", "_law_seats", "_law_j", "_law_part", "_law_rows"] : List Str)) (osc := defScope s_Lhouse) (by decide +kernel) rfl rfl) (⟨_, ⟨_, rfl⟩, rfl⟩) rfl (pi_list (pe_callB (call_sorted_dTO rfl) rfl T.b_sorted (by decide +kernel) (pa_cons (pv 6) pa_nil))) (fun b => ⟨pts_nil, (pe_op op_catT (pv 0) (pe_tup (pa_cons (pe_dget hr.units1 (pv 1) (pv 0) (fun _ _ => rfl)) pa_nil)))⟩) (by rfl) sc_Lhouse.nd rfl rfl) (pss_one (ps_ret (pe_tup (pa_cons (pv 2) (pa_cons (pe_tup (pa_cons (pe_callTy call_tuple_of rfl T.b_tuple (by decide +kernel) (pa_cons (pe_callB call_sorted_rowsO rfl T.b_sorted (by decide +kernel) (pa_cons (pv 2) pa_nil)) pa_nil)) (pa_cons (pe_callTy call_tuple_of rfl T.b_tuple (by decide +kernel) (pa_cons (pv 4) pa_nil)) (pa_cons (pe_callTy call_tuple_of rfl T.b_tuple (by decide +kernel) (pa_cons (pv 5) pa_nil)) (pa_cons (pe_callTy call_tuple_of rfl T.b_tuple (by decide +kernel) (pa_cons (pv 18) pa_nil)) pa_nil))))) pa_nil))))))))))), ?_⟩
    refine seq_hide fun W0 hW0 => ?_
    refine ⟨_, rfl, _, rfl, p, nl, n, zs, rfl, hb, by omega, hnl, by omega, fun L rows H1 hL pr l1 l8 ok b1 x1 => ?_⟩
    refine hW0 _ _ ?_
    refine seq_hide fun W1 hW1 => ?_
    have Lp := hb.ne hL
    have np := names_ne hb hnl
    refine ⟨_, rfl, L, rfl, ⟨_, SqL.of pr.lst⟩, fun O hO bk => ?_⟩
    refine blk_map (fx_list L (rows.map fun r => V.ref r.1)) (fun j => .str (rows.getD j (0, ⟨#[]⟩, ⟨#[]⟩)).2.1) (by rw [List.length_map, sizeLine_eq]; omega) hO (fun H3 s3 => SqL.of (s3 _ _ pr.lst)) (fun j H3 hj s3 QY qy => ?_) (fun H2 s2 d2 => ?_)
    · rw [List.length_map] at hj
      have ej : (rows.map fun r => V.ref r.1).getD j .non = .ref (rows.getD j (0, ⟨#[]⟩, ⟨#[]⟩)).1 := by simp [List.getD, hj]
      have mj : rows.getD j (0, ⟨#[]⟩, ⟨#[]⟩) ∈ rows := by
        have : rows.getD j (0, ⟨#[]⟩, ⟨#[]⟩) = rows[j] := by simp [List.getD, hj]
        rw [this]
        exact List.getElem_mem hj
      exact ⟨_, rfl, _, _, 0, _, ej, rfl, SqT.of (s3 _ _ (pr.tup _ mj)), rfl, qy _ (Same.refl _)⟩
    · rw [List.length_map] at d2
      have e3 : ((List.range rows.length).map fun j => V.str (rows.getD j (0, ⟨#[]⟩, ⟨#[]⟩)).2.1) = (rows.map fun r => r.2.1).map V.str := by
        refine List.ext_getElem (by simp) fun j h1 h2 => ?_
        have hj : j < rows.length := by simpa using h1
        simp [List.getD, hj]
      rw [e3] at d2
      refine ⟨Nat.zero_le _, fun R hR => ⟨Nat.zero_le _, fun V' hV => fun U hU => ⟨by show 4 ≤ sizeLine; decide, fun t4 ht4 => ?_⟩⟩⟩
      have c1 := Same.upd (o := .lst []) hR
      have c2 := Same.upd (o := .lst []) hV
      have c3 := Same.upd (o := .dT []) hU
      have c4 := Same.upd (o := .tup [.ref O, .ref R, .ref V', .ref U]) ht4
      have c24 := c2.trans (c3.trans c4)
      have cc := c1.trans c24
      have x2 : Ext p H H2 := x1.trans s2.ext
      have b2 := b1.same s2
      have hp2 : ∃ xs, H2 p = some (.lst xs) := by obtain ⟨_, _, _, e, _⟩ := b2; exact ⟨_, e⟩
      have nl2 : H2 nl = some (.lst (zs.map V.str)) := x2 _ _ hnl np
      have L2 := s2 _ _ pr.lst
      have hH0 : ∀ {b : Addr}, H2 b = none → H b = none := fun {b} e => by
        cases e0 : H b with
        | none => rfl
        | some o =>
          by_cases hbp : b = p
          · subst hbp
            obtain ⟨xs, e1⟩ := hp2
            rw [e1] at e
            cases e
          · rw [x2 _ _ e0 hbp] at e
            cases e
      have HH : HI H (upd (upd (upd (upd H2 R (.lst [])) V' (.lst [])) U (.dT [])) t4 (.tup [.ref O, .ref R, .ref V', .ref U])) p nl L O R V' U (n + 10) zs rows [] [] [] := by
        have hO1 : H1 O = none := hO
        have nO : ∀ {b : Addr} {o : HO}, H1 b = some o → b ≠ O := fun e => ne_of_none e hO1
        have nR : ∀ {b : Addr} {o : HO}, H2 b = some o → b ≠ R := fun e => ne_of_none e hR
        have nV : ∀ {b : Addr} {o : HO}, (upd H2 R (.lst [])) b = some o → b ≠ V' := fun e => ne_of_none e hV
        have nU : ∀ {b : Addr} {o : HO}, (upd (upd H2 R (.lst [])) V' (.lst [])) b = some o → b ≠ U := fun e => ne_of_none e hU
        obtain ⟨xs, hpx⟩ := hp2
        obtain ⟨xs1, hpx1⟩ : ∃ xs, H1 p = some (.lst xs) := by obtain ⟨_, _, _, e, _⟩ := b1; exact ⟨_, e⟩
        have nl1 : H1 nl = some (.lst (zs.map V.str)) := x1 _ _ hnl np
        have nlL : nl ≠ L := ne_of_none hnl hL
        have s12 : ∀ {b : Addr} {o : HO}, H2 b = some o → (upd H2 R (.lst [])) b = some o := fun e => c1 _ _ e
        have s13 : ∀ {b : Addr} {o : HO}, H2 b = some o → (upd (upd H2 R (.lst [])) V' (.lst [])) b = some o := fun e => (c1.trans c2) _ _ e
        refine ⟨b2.same cc, cc _ _ nl2, ⟨cc _ _ L2, fun r hr => cc _ _ (s2 _ _ (pr.tup r hr))⟩, cc _ _ d2, ⟨[], c24 _ _ upd_same, rfl⟩, ⟨[], (c3.trans c4) _ _ upd_same, rfl⟩, c4 _ _ upd_same, by simp, by simp, x2.trans cc.ext, fun b hb => ?_, ?_⟩
        · simp only [List.mem_cons, List.not_mem_nil, or_false] at hb
          rcases hb with rfl | rfl | rfl | rfl | rfl
          · exact hL
          · cases e0 : H b with
            | none => rfl
            | some o =>
              by_cases hbp : b = p
              · subst hbp
                rw [hpx1] at hO1
                cases hO1
              · rw [x1 _ _ e0 hbp] at hO1
                cases hO1
          · exact hH0 hR
          · exact hH0 (c1.free hV)
          · exact hH0 ((c1.trans c2).free hU)
        · simp only [List.nodup_cons, List.mem_cons, not_or, List.not_mem_nil, not_false_eq_true, List.nodup_nil, and_true]
          refine ⟨⟨np.symm, Lp.symm, nO hpx1, nR hpx, nV (s12 hpx), nU (s13 hpx)⟩, ⟨nlL, nO nl1, nR nl2, nV (s12 nl2), nU (s13 nl2)⟩, ⟨nO pr.lst, nR L2, nV (s12 L2), nU (s13 L2)⟩, ⟨nR d2, nV (s12 d2), nU (s13 d2)⟩, ⟨nV upd_same, nU (c2 _ _ upd_same)⟩, nU upd_same⟩
      have ht4' : (upd (upd (upd (upd H2 R (.lst [])) V' (.lst [])) U (.dT [])) t4 (.tup [.ref O, .ref R, .ref V', .ref U])) t4 = some (.tup [.ref O, .ref R, .ref V', .ref U]) := upd_same
      generalize (upd (upd (upd (upd H2 R (.lst [])) V' (.lst [])) U (.dT [])) t4 (.tup [.ref O, .ref R, .ref V', .ref U])) = H3 at HH ht4' ⊢
      clear c1 c2 c3 c4 c24 cc hR hV hU ht4 d2 s2 hH0
      refine ⟨t4, _, rfl, SqT.of ht4', rfl, _, _, rfl, _, _, rfl, _, _, rfl, _, _, rfl, rfl, ?_⟩
      refine hW1 _ _ ?_
      refine seq_hide fun W2 hW2 => ?_
      -- ranks
      refine ⟨_, rfl, _, rfl, p, 20, _, rfl, HH.box, by omega, by decide, by decide, fun d H4 d0 d1 b4 x4 => ?_⟩
      refine ⟨p, d, _, rfl, b4, by omega, d0, by omega, fun nL ns H5 hnL lns pns bns dnL b5 x5 => ?_⟩
      refine ⟨nL, rfl, ⟨_, SqL.of dnL⟩, ?_⟩
      have h5 := HH.ext (x4.trans x5) b5
      have nLp : nL ≠ p := b4.ne hnL
      have nLR : nL ≠ R := by
        obtain ⟨v, e, _⟩ := (HH.ext x4 b4).rk
        exact (ne_of_none e hnL).symm
      refine for_list (xs := ns.map V.int) (fun i σ Hc => ∃ (rks : List RankT), HSt p nl L O R V' U σ ∧ HI H Hc p nl L O R V' U (n + 52 + 12 * i) zs rows rks [] [] ∧ Hc nL = some (.lst (ns.map V.int)) ∧ rks.map (·.1) = ns.take i ∧ ∀ r ∈ rks, RankOk zs (rows.map (·.2.1)) r)
        ⟨[], .mk, h5.ext (Ext.refl p H5) (h5.box.mono (by omega)), dnL, rfl, by simp⟩ (fun i σ Hc _ h => ?_) ?_ ?_
      · obtain ⟨_, _, _, h, _⟩ := h
        exact SqL.of h
      · rintro i x σ Hc hx ⟨rks, @⟨v7, v8, v9, v10, v11, v12, v13, v14, v15, v16, v17, v18⟩, hi, dn, tk, ro⟩
        rw [List.getElem?_map] at hx
        obtain ⟨num, hnum, rfl⟩ := Option.map_eq_some_iff.mp hx
        have il : i < ns.length := (List.getElem?_eq_some_iff.mp hnum).1
        refine seq_hide fun Z1 hZ1 => ?_
        refine ⟨_, rfl, p, _, rfl, hi.box, by omega, fun e1 G1 e10 e11 c1 y1 => ?_⟩
        refine ⟨_, rfl, p, _, rfl, c1, by omega, fun e2 G2 e20 e21 c2 y2 => ?_⟩
        refine ⟨by show 2 ≤ sizeLine; decide, fun l hl => ?_⟩
        refine ⟨l, [e1, e2], rfl, SqL.of upd_same, by show 2 < 64; decide, fun l2 nd hl2 pm pw => ?_⟩
        obtain ⟨da, db, rfl, dab, ha, hb'⟩ := two_sorted pm pw
        have y2' : Ext p Hc G2 := y1.trans y2
        have sA := Same.upd (o := .lst ([V.int e1, V.int e2])) hl
        have sB := Same.upd (o := .lst ([da, db].map V.int)) hl2
        have sAB := sA.trans sB
        have l2A : (upd (upd G2 l (.lst [V.int e1, V.int e2])) l2 (.lst ([da, db].map V.int))) l2 = some (.lst [.int da, .int db]) := upd_same
        have y3 : Ext p Hc (upd (upd G2 l (.lst [V.int e1, V.int e2])) l2 (.lst ([da, db].map V.int))) := y2'.trans sAB.ext
        have c3 := c2.same sAB
        generalize (upd (upd G2 l (.lst [V.int e1, V.int e2])) l2 (.lst ([da, db].map V.int))) = G3 at c3 y3 l2A ⊢
        have l2p : l2 ≠ p := by
          obtain ⟨_, _, _, e, _⟩ := c2.same sA
          exact (ne_of_none e hl2).symm
        clear sA sB sAB
        have h3 := hi.ext y3 c3
        refine hZ1 _ _ ?_
        refine seq_hide fun Z2 hZ2 => ?_
        refine ⟨_, rfl, _, rfl, p, 9, _, rfl, c3, by omega, by decide, by decide, fun r4 G4 r40 r41 c4 k4 => ?_⟩
        have y4 := y3.took k4
        have h4 := hi.ext y4 c4
        obtain ⟨zw, hzw, mzw⟩ := name_at (zs := zs) r40 (by omega)
        refine ⟨nl, _, _, _, rfl, rfl, SqL.of h4.hnl, hzw, ?_⟩
        refine ⟨_, rfl, _, rfl, _, rfl, _, _, rfl, .inl ⟨_, SqL.of h4.own, rfl⟩, p, _, _, rfl, c4, by omega, by rw [List.length_map, List.length_map]; omega, by rw [List.length_map, List.length_map]; omega, fun r5 G5 r50 r51 c5 k5 => ?_⟩
        have y5 := y4.took k5
        have h5 := hi.ext y5 c5
        obtain ⟨zp, hzp, mzp⟩ := own_at r50 r51
        refine ⟨O, _, _, _, rfl, rfl, SqL.of h5.own, hzp, _, _, rfl, ?_⟩
        refine hZ2 _ _ ?_
        obtain ⟨rvs, e5, rd5⟩ := h5.rk
        refine ⟨_, rfl, .inl ⟨rfl, _, SqL.of e5⟩, ?_⟩
        refine ⟨_, rfl, _, rfl, _, rfl, by show 2 ≤ sizeLine; decide, fun l6 hl6 => ?_⟩
        have s6 := Same.upd (o := .lst [.int 9, .int 3]) hl6
        refine ⟨_, rfl, p, 2, _, rfl, c5.same s6, by omega, by decide, by decide, fun r7 G7 r70 r71 c7 k7 => ?_⟩
        obtain ⟨kk, hkk, kk0, kk1⟩ := nine_three r70 r71
        refine ⟨l6, _, _, _, rfl, rfl, SqL.of ((k7 l6 (c5.ne hl6)).trans upd_same), hkk, p, kk, _, rfl, c7, by omega, by omega, by omega, fun r8 G8 r80 r81 c8 k8 => ?_⟩
        have y8 := ((y5.trans s6.ext).took k7).took k8
        have h8 := hi.ext y8 c8
        have l28 : G8 l2 = some (.lst [.int da, .int db]) := (k8 l2 l2p).trans ((k7 l2 l2p).trans (s6 _ _ ((k5 l2 l2p).trans ((k4 l2 l2p).trans l2A))))
        refine ⟨_, _, rfl, rfl, _, rfl, ?_⟩
        refine ⟨_, rfl, l2, _, 0, _, rfl, rfl, SqL.of l28, rfl, _, rfl, l2, _, 1, _, rfl, rfl, SqL.of l28, rfl, by show 6 ≤ sizeLine; decide, fun t9 ht9 => ?_⟩
        have s9 := Same.upd (o := .tup [.int num, .str zw, .int (1 + r8), .str zp, .int da, .int db]) ht9
        have h9 := h8.same s9
        obtain ⟨rvs9, e9, rd9⟩ := h9.rk
        have hlen : rvs9.length = rks.length := by rw [rds_len rd9, List.length_map]
        have hrk : rks.length = i := by
          have := congrArg List.length tk
          rw [List.length_map, List.length_take] at this
          omega
        refine ⟨R, _, _, rfl, rfl, e9, by rw [sizeLine_eq]; omega, ?_⟩
        have h10 := h9.putR e9 rd9 (rd_six (H := upd G8 t9 (.tup [.int num, .str zw, .int (1 + r8), .str zp, .int da, .int db])) upd_same)
        refine ⟨rks ++ [(num, zw, 1 + r8, zp, da, db)], .mk, h10.ext (Ext.refl p _) (h10.box.mono (by omega)), ?_, ?_, fun r hr => ?_⟩
        · rw [upd_ne nLR]
          exact s9 _ _ (y8 _ _ dn nLp)
        · rw [List.map_append, tk, List.take_succ, hnum]
          rfl
        · rcases List.mem_append.mp hr with hr | hr
          · exact ro r hr
          · rw [List.mem_singleton.mp hr]
            have hb9 := bns num (List.mem_of_getElem? hnum)
            exact ⟨hb9, List.mem_of_getElem? mzw, ⟨by show 1 ≤ 1 + r8; omega, by show 1 + r8 ≤ 9; omega⟩, mzp, ⟨by show 0 ≤ da; omega, dab, by show db ≤ 99999; omega⟩⟩
      · rintro σ Hc ⟨rks, @⟨v7, v8, v9, v10, v11, v12, v13, v14, v15, v16, v17, v18⟩, hi, dn, tk, ro⟩
        rw [List.length_map, List.take_length] at tk
        have h20 : rks.length ≤ 20 := by
          have := congrArg List.length tk
          rw [List.length_map] at this
          omega
        have rup : (rks.map (·.1)).Pairwise (· < ·) := by rw [tk]; exact pns
        rw [List.length_map] at hi
        replace hi := hi.ext (Ext.refl p Hc) (hi.box.mono (m := n + 400) (by omega))
        clear dn tk h5 HH ht4' nLR nLp dnL hnL lns pns bns b4 x4 b5 x5 b2 x2 L2 nl2 hp2
        refine hW2 _ _ ?_
        refine seq_hide fun W3 hW3 => ?_
        -- leaves
        refine ⟨_, rfl, _, rfl, p, 16, _, rfl, hi.box, by omega, by decide, by decide, fun d H4 d0 d1 b4 x4 => ?_⟩
        refine ⟨p, d, _, rfl, b4, by omega, d0, by omega, fun nL ns H5 hnL lns pns bns dnL b5 x5 => ?_⟩
        refine ⟨nL, rfl, ⟨_, SqL.of dnL⟩, ?_⟩
        have h5 := hi.ext (x4.trans x5) b5
        have nLp : nL ≠ p := b4.ne hnL
        have nLV : nL ≠ V' := by
          obtain ⟨v, e, _⟩ := (hi.ext x4 b4).lv
          exact (ne_of_none e hnL).symm
        refine for_list (xs := ns.map V.int) (fun i σ Hc => ∃ (lvs : List LeaveT), HSt p nl L O R V' U σ ∧ HI H Hc p nl L O R V' U (n + 440 + 16 * i) zs rows rks lvs [] ∧ Hc nL = some (.lst (ns.map V.int)) ∧ lvs.map (·.1) = ns.take i ∧ ∀ r ∈ lvs, LeaveOk zs (rows.map (·.2.1)) r)
          ⟨[], .mk, h5.ext (Ext.refl p H5) (h5.box.mono (by omega)), dnL, rfl, by simp⟩ (fun i σ Hc _ h => ?_) ?_ ?_
        · obtain ⟨_, _, _, h, _⟩ := h
          exact SqL.of h
        · rintro i x σ Hc hx ⟨lvs, @⟨v7, v8, v9, v10, v11, v12, v13, v14, v15, v16, v17, v18⟩, hi, dn, tk, lo⟩
          rw [List.getElem?_map] at hx
          obtain ⟨num, hnum, rfl⟩ := Option.map_eq_some_iff.mp hx
          have il : i < ns.length := (List.getElem?_eq_some_iff.mp hnum).1
          refine seq_hide fun Z1 hZ1 => ?_
          refine ⟨_, rfl, p, _, rfl, hi.box, by omega, fun e1 G1 e10 e11 c1 y1 => ?_⟩
          refine ⟨_, rfl, p, _, rfl, c1, by omega, fun e2 G2 e20 e21 c2 y2 => ?_⟩
          refine ⟨by show 2 ≤ sizeLine; decide, fun l hl => ?_⟩
          refine ⟨l, [e1, e2], rfl, SqL.of upd_same, by show 2 < 64; decide, fun l2 nd hl2 pm pw => ?_⟩
          obtain ⟨da, db, rfl, dab, ha, hb'⟩ := two_sorted pm pw
          have y2' : Ext p Hc G2 := y1.trans y2
          have sA := Same.upd (o := .lst ([V.int e1, V.int e2])) hl
          have sB := Same.upd (o := .lst ([da, db].map V.int)) hl2
          have sAB := sA.trans sB
          have l2A : (upd (upd G2 l (.lst [V.int e1, V.int e2])) l2 (.lst ([da, db].map V.int))) l2 = some (.lst [.int da, .int db]) := upd_same
          have y3 : Ext p Hc (upd (upd G2 l (.lst [V.int e1, V.int e2])) l2 (.lst ([da, db].map V.int))) := y2'.trans sAB.ext
          have c3 := c2.same sAB
          generalize (upd (upd G2 l (.lst [V.int e1, V.int e2])) l2 (.lst ([da, db].map V.int))) = G3 at c3 y3 l2A ⊢
          have l2p : l2 ≠ p := by
            obtain ⟨_, _, _, e, _⟩ := c2.same sA
            exact (ne_of_none e hl2).symm
          clear sA sB sAB
          refine ⟨_, rfl, p, 9, _, rfl, c3, by omega, by decide, by decide, fun at' G4 r40 r41 c4 k4 => ?_⟩
          have y4 := y3.took k4
          have h4 := hi.ext y4 c4
          refine ⟨_, _, rfl, ?_⟩
          refine hZ1 _ _ ?_
          refine seq_hide fun Z2 hZ2 => ?_
          refine ⟨_, rfl, _, rfl, _, _, rfl, rfl, _, rfl, p, 8, _, rfl, c4, by omega, by decide, by decide, fun r5 G5 r50 r51 c5 k5 => ?_⟩
          have y5 := y4.took k5
          have h5 := hi.ext y5 c5
          have m0 := Int.emod_nonneg (at' + 1 + r5) (by decide : (9 : Int) ≠ 0)
          have m1 := Int.emod_lt_of_pos (at' + 1 + r5) (by decide : (0 : Int) < 9)
          obtain ⟨zt, hzt, mzt⟩ := name_at (zs := zs) m0 (by omega)
          obtain ⟨zg, hzg, mzg⟩ := name_at (zs := zs) r40 (by omega)
          have gt : zg ≠ zt := fun e => by
            subst e
            have i1 : at'.toNat < zs.length := by omega
            have i2 : ((at' + 1 + r5) % 9).toNat < zs.length := by omega
            have e1 : zs[at'.toNat] = zg := by rw [List.getElem?_eq_getElem i1] at mzg; exact Option.some.inj mzg
            have e2 : zs[((at' + 1 + r5) % 9).toNat] = zg := by rw [List.getElem?_eq_getElem i2] at mzt; exact Option.some.inj mzt
            have ne : at'.toNat ≠ ((at' + 1 + r5) % 9).toNat := by omega
            rcases Nat.lt_or_gt_of_ne ne with hlt | hlt
            · exact List.pairwise_iff_getElem.mp nm.1 _ _ i1 i2 hlt (e1.trans e2.symm)
            · exact List.pairwise_iff_getElem.mp nm.1 _ _ i2 i1 hlt (e2.trans e1.symm)
          refine ⟨_, _, rfl, rfl, _, _, rfl, rfl, (by show (0 : Int) < 9; decide), nl, _, _, _, rfl, rfl, SqL.of h5.hnl, hzt, ?_⟩
          refine ⟨_, rfl, _, rfl, _, rfl, _, _, rfl, .inl ⟨_, SqL.of h5.own, rfl⟩, p, _, _, rfl, c5, by omega, by rw [List.length_map, List.length_map]; omega, by rw [List.length_map, List.length_map]; omega, fun r6 G6 r60 r61 c6 k6 => ?_⟩
          have y6 := y5.took k6
          have h6 := hi.ext y6 c6
          obtain ⟨zp, hzp, mzp⟩ := own_at r60 r61
          refine ⟨O, _, _, _, rfl, rfl, SqL.of h6.own, hzp, _, _, rfl, ?_⟩
          refine hZ2 _ _ ?_
          obtain ⟨lvs6, e6, rd6⟩ := h6.lv
          have l26 : G6 l2 = some (.lst [.int da, .int db]) := (k6 l2 l2p).trans ((k5 l2 l2p).trans ((k4 l2 l2p).trans l2A))
          refine ⟨_, rfl, .inl ⟨rfl, _, SqL.of e6⟩, ?_⟩
          refine ⟨_, rfl, _, rfl, _, rfl, nl, _, _, _, rfl, rfl, SqL.of h6.hnl, hzg, _, rfl, _, rfl, ?_⟩
          refine ⟨_, rfl, l2, _, 0, _, rfl, rfl, SqL.of l26, rfl, _, rfl, l2, _, 1, _, rfl, rfl, SqL.of l26, rfl, ?_⟩
          refine ⟨_, rfl, p, _, rfl, c6, by omega, fun ms G8 ms0 ms1 c8 y8' => ⟨by show 7 ≤ sizeLine; decide, fun t9 ht9 => ?_⟩⟩
          have y8 := y6.trans y8'
          have h8 := hi.ext y8 c8
          have s9 := Same.upd (o := .tup [.int num, .str zg, .str zt, .str zp, .int da, .int db, .int ms]) ht9
          have h9 := h8.same s9
          obtain ⟨lvs9, e9, rd9⟩ := h9.lv
          have hlen : lvs9.length = lvs.length := by rw [rds_len rd9, List.length_map]
          have hrk : lvs.length = i := by
            have := congrArg List.length tk
            rw [List.length_map, List.length_take] at this
            omega
          refine ⟨V', _, _, rfl, rfl, e9, by rw [sizeLine_eq]; omega, ?_⟩
          have h10 := h9.putL e9 rd9 (rd_seven (H := upd G8 t9 (.tup [.int num, .str zg, .str zt, .str zp, .int da, .int db, .int ms])) upd_same)
          refine ⟨lvs ++ [(num, zg, zt, zp, da, db, ms)], .mk, h10.ext (Ext.refl p _) (h10.box.mono (by omega)), ?_, ?_, fun r hr => ?_⟩
          · rw [upd_ne nLV]
            exact s9 _ _ (y8 _ _ dn nLp)
          · rw [List.map_append, tk, List.take_succ, hnum]
            rfl
          · rcases List.mem_append.mp hr with hr | hr
            · exact lo r hr
            · rw [List.mem_singleton.mp hr]
              have hb9 := bns num (List.mem_of_getElem? hnum)
              exact ⟨hb9, List.mem_of_getElem? mzg, List.mem_of_getElem? mzt, gt, mzp, ⟨by show 0 ≤ da; omega, dab, by show db ≤ 99999; omega⟩, ⟨ms0, ms1⟩⟩
        · rintro σ Hc ⟨lvs, @⟨v7, v8, v9, v10, v11, v12, v13, v14, v15, v16, v17, v18⟩, hi, dn, tk, lo⟩
          rw [List.length_map, List.take_length] at tk
          have h16 : lvs.length ≤ 16 := by
            have := congrArg List.length tk
            rw [List.length_map] at this
            omega
          have lup : (lvs.map (·.1)).Pairwise (· < ·) := by rw [tk]; exact pns
          rw [List.length_map] at hi
          replace hi := hi.ext (Ext.refl p Hc) (hi.box.mono (m := n + 1000) (by omega))
          clear dn tk h5 nLV nLp dnL hnL lns pns bns b4 x4 b5 x5
          refine hW3 _ _ ?_
          refine seq_hide fun W4 hW4 => ?_
          -- rules
          refine ⟨_, rfl, p, 10, _, rfl, hi.box, by omega, by decide, by decide, fun d H4 d0 d1 b4 x4 => ?_⟩
          have h4 := hi.ext x4 b4
          refine ⟨d, rfl, by omega, by omega, for_range (fun i σ Hc => ∃ (kvs : List (List Key × V)), HSt p nl L O R V' U σ ∧ HI H Hc p nl L O R V' U (n + 1002 + 40 * i) zs rows rks lvs kvs ∧ kvs.length ≤ i) ⟨[], .mk, h4.ext (Ext.refl p H4) (h4.box.mono (by omega)), by simp⟩ ?_ ?_⟩
          · rintro i σ Hc hi10 ⟨kvs, @⟨v7, v8, v9, v10, v11, v12, v13, v14, v15, v16, v17, v18⟩, hi, kl⟩
            refine seq_hide fun Z1 hZ1 => ?_
            refine ⟨_, rfl, _, rfl, _, rfl, _, _, rfl, .inl ⟨_, SqL.of hi.own, rfl⟩, p, _, _, rfl, hi.box, by omega, by rw [List.length_map, List.length_map]; omega, by rw [List.length_map, List.length_map]; omega, fun r5 G5 r50 r51 c5 k5 => ?_⟩
            have y5 : Ext p Hc G5 := (Ext.refl p Hc).took k5
            have h5 := hi.ext y5 c5
            obtain ⟨zp, hzp, mzp⟩ := own_at r50 r51
            refine ⟨O, _, _, _, rfl, rfl, SqL.of h5.own, hzp, ?_⟩
            refine ⟨_, rfl, p, _, rfl, c5, by omega, fun sm G6 sm0 sm1 c6 y6' => ⟨by show 2 ≤ sizeLine; decide, fun kt hkt => ⟨Nat.zero_le _, fun S hS => ?_⟩⟩⟩
            have h6 := hi.ext (y5.trans y6') c6
            have sk := Same.upd (o := .tup [.str zp, .int sm]) hkt
            have h7 := h6.same sk
            obtain ⟨fS, f0⟩ := h7.fresh hS
            have sS := Same.upd (o := .lst []) hS
            have h8 := h7.same sS
            have kt8 : (upd (upd G6 kt (.tup [.str zp, .int sm])) S (.lst [])) kt = some (.tup [.str zp, .int sm]) := sS _ _ upd_same
            have S8 : (upd (upd G6 kt (.tup [.str zp, .int sm])) S (.lst [])) S = some (.lst []) := upd_same
            generalize (upd (upd G6 kt (.tup [.str zp, .int sm])) S (.lst [])) = G8 at h8 kt8 S8 ⊢
            have Sp : S ≠ p := fun e => fS (by rw [e]; simp)
            clear sS sk
            refine ⟨_, _, rfl, ?_⟩
            refine hZ1 _ _ ?_
            refine seq_hide fun Z2 hZ2 => ?_
            refine ⟨_, rfl, p, 6, _, rfl, h8.box, by omega, by decide, by decide, fun d' G9 d0' d1' b9 x9 => ?_⟩
            have h9 := h8.ext x9 b9
            have t89 : TS G8 G9 := by
              obtain ⟨_, _, _, e, _⟩ := h8.box
              exact x9.ts e
            refine ⟨d', rfl, by omega, by omega, for_range (fun j σ Hd => ∃ (v16' v17' : Option V) (seats : List SeatT) (svs : List V), σ = [some (.ref p), some (.ref nl), some (.ref L), some (.ref O), some (.ref R), some (.ref V'), some (.ref U), v7, v8, v9, v10, v11, v12, some (.int (0 + i)), some (.ref kt), some (.ref S), v16', v17', v18] ∧ HI H Hd p nl L O R V' U (n + 1002 + 40 * i + 8 + 4 * j) zs rows rks lvs kvs ∧ Hd kt = some (.tup [.str zp, .int sm]) ∧ Hd S = some (.lst svs) ∧ RXs Hd (seats.map seatD) svs ∧ seats.length = j ∧ ∀ s ∈ seats, SeatOk (rows.map (·.2.1)) s)
              ⟨_, _, [], [], rfl, h9.ext (Ext.refl p G9) (h9.box.mono (by omega)), t89.tup _ _ kt8, x9 _ _ S8 Sp, rfl, rfl, by simp⟩ ?_ ?_⟩
            · rintro j σ Hd hj ⟨v16', v17', seats, svs, rfl, hd, ktd, Sd, rds, sl, sok⟩
              refine seq_hide fun Z3 hZ3 => ?_
              refine ⟨by show 2 ≤ sizeLine; decide, fun l hl => ?_⟩
              have sl1 := Same.upd (o := .lst [.str (Str.ofString ""), .str (Str.ofString "")]) hl
              have hd1 := hd.same sl1
              refine ⟨_, rfl, l, O, _, _, rfl, rfl, upd_same, hd1.own, by rw [List.length_map, List.length_map, sizeLine_eq]; show 2 + rows.length ≤ _; omega, fun l2 hl2 => ?_⟩
              have sl2 := Same.upd (o := .lst ([.str (Str.ofString ""), .str (Str.ofString "")] ++ (rows.map (·.2.1)).map V.str)) hl2
              have hd2 := hd1.same sl2
              refine ⟨_, rfl, _, rfl, _, _, rfl, .inl ⟨_, SqL.of hd2.own, rfl⟩, _, _, rfl, rfl, p, _, _, rfl, hd2.box, by omega, by rw [List.length_map, List.length_map]; omega, by rw [List.length_map, List.length_map]; omega, fun r3 G3 r30 r31 c3 k3 => ?_⟩
              have z3 : Ext p Hd G3 := (sl1.trans sl2).ext.took k3
              have hd3 := hd.ext z3 c3
              have l23 : G3 l2 = some (.lst ((Str.ofString "" :: Str.ofString "" :: rows.map (·.2.1)).map V.str)) := (k3 l2 (hd1.box.ne hl2)).trans upd_same
              obtain ⟨y, hy, hy2⟩ : ∃ y, (Str.ofString "" :: Str.ofString "" :: rows.map (·.2.1))[r3.toNat]? = some y ∧ (y = Str.ofString "" ∨ y ∈ rows.map (·.2.1)) := by
                rw [List.length_map, List.length_map] at r31
                cases hr0 : r3.toNat with
                | zero => exact ⟨_, rfl, .inl rfl⟩
                | succ a =>
                  cases a with
                  | zero => exact ⟨_, rfl, .inl rfl⟩
                  | succ a =>
                    have ha : a < (rows.map (·.2.1)).length := by rw [List.length_map]; omega
                    exact ⟨(rows.map (·.2.1))[a], by rw [List.getElem?_cons_succ, List.getElem?_cons_succ, List.getElem?_eq_getElem ha], .inr (List.getElem_mem ha)⟩
              have hat := str_at hy
              rw [Int.toNat_of_nonneg r30] at hat
              refine ⟨l2, _, _, _, rfl, rfl, SqL.of l23, hat, ?_⟩
              refine hZ3 _ _ ?_
              have S3 : G3 S = some (.lst svs) := z3 _ _ Sd Sp
              refine ⟨_, rfl, .inl ⟨rfl, _, SqL.of S3⟩, ?_⟩
              refine ⟨_, rfl, by show 2 ≤ sizeLine; decide, fun l6 hl6 => ?_⟩
              have s6 := Same.upd (o := .lst [.int 9, .int 3]) hl6
              refine ⟨_, rfl, p, 2, _, rfl, c3.same s6, by omega, by decide, by decide, fun r7 G7 r70 r71 c7 k7 => ?_⟩
              obtain ⟨kk, hkk, kk0, kk1⟩ := nine_three r70 r71
              refine ⟨l6, _, _, _, rfl, rfl, SqL.of ((k7 l6 (c3.ne hl6)).trans upd_same), hkk, p, kk, _, rfl, c7, by omega, by omega, by omega, fun r8 G8' r80 r81 c8 k8 => ?_⟩
              have z8 := ((z3.trans s6.ext).took k7).took k8
              have hd8 := hd.ext z8 c8
              refine ⟨_, _, rfl, rfl, _, rfl, by show 2 ≤ sizeLine; decide, fun t9 ht9 => ?_⟩
              have s9 := Same.upd (o := .tup [.int (1 + r8), .str y]) ht9
              have hd9 := hd8.same s9
              have S9 := s9 _ _ (z8 _ _ Sd Sp)
              have t08 : TS Hd G8' := by
                obtain ⟨_, _, _, e, _⟩ := hd.box
                exact z8.ts e
              have t09 := t08.trans s9.ts
              have tS := upd_ts_l (o := .lst (svs ++ [.ref t9])) S9
              have hsv : svs.length = seats.length := by rw [rds_len rds, List.length_map]
              refine ⟨S, _, _, rfl, rfl, S9, by rw [sizeLine_eq]; omega, ?_⟩
              have hd10 := hd9.aside (ys := svs ++ [.ref t9]) S9 fS f0
              refine ⟨_, _, seats ++ [(1 + r8, y)], svs ++ [.ref t9], rfl, hd10.ext (Ext.refl p _) (hd10.box.mono (by omega)), (t09.trans tS).tup _ _ ktd, upd_same, ?_, by simp [sl], fun s hs => ?_⟩
              · rw [List.map_append]
                exact rds_snoc (rd_ts tS (noL_seat _) (rd_two upd_same)) (rds_ts (t09.trans tS) (noLs_map noL_seat _) rds)
              · rcases List.mem_append.mp hs with hs | hs
                · exact sok s hs
                · rw [List.mem_singleton.mp hs]
                  exact ⟨by show 1 ≤ 1 + r8; omega, by show 1 + r8 ≤ 9; omega, hy2⟩
            · rintro σ Hd ⟨v16', v17', seats, svs, rfl, hd, ktd, Sd, rds, sl, sok⟩
              refine hZ2 _ _ ?_
              refine ⟨_, rfl, S, svs, rfl, .inl ⟨SqL.of Sd, fun t ht => ?_⟩⟩
              have st := Same.upd (o := .tup svs) ht
              have hd1 := hd.same st
              refine ⟨_, rfl, _, rfl, U, _, rfl, DPut.t (k := [.inr zp, .inl sm]) hd1.ru (st _ _ ktd) (by rw [sizeLine_eq]; omega), ?_⟩
              have h10 := hd1.putU (r := (zp, sm, seats)) (v := .ref t) ⟨mzp, ⟨sm0, sm1⟩, by show seats.length ≤ 6; omega, sok⟩ ⟨t, svs, rfl, upd_same, rds_ts st.ts (noLs_map noL_seat _) rds⟩
              refine ⟨_, .mk, h10.ext (Ext.refl p _) (h10.box.mono (by omega)), ?_⟩
              have := length_putK kvs ([.inr zp, .inl sm] : List Key) (V.ref t)
              show (putK kvs ([.inr zp, .inl sm] : List Key) (V.ref t)).length ≤ i + 1
              omega
          · rintro σ Hc ⟨kvs, @⟨v7, v8, v9, v10, v11, v12, v13, v14, v15, v16, v17, v18⟩, hi, kl⟩
            have k10 : kvs.length ≤ 10 := by omega
            replace hi := hi.ext (Ext.refl p Hc) (hi.box.mono (m := n + 3000) (by omega))
            clear h4 b4 x4
            have shp : ∀ kv ∈ kvs, kv.1.map kTy = [false, true] := fun kv hk => by
              obtain ⟨r, e, _⟩ := (hi.rv kv hk).ex
              rw [e]
              rfl
            refine hW4 _ _ ?_
            refine seq_hide fun W5 hW5 => ?_
            refine ⟨_, rfl, U, kvs, false, [true], rfl, hi.ru, by omega, shp, fun l rws hl pm pwu tu => ?_⟩
            have sl := Same.upd (o := .lst (rws.map fun r => V.ref r.1)) hl
            have hl1 := hi.same sl
            refine ⟨l, rfl, ⟨_, SqL.of upd_same⟩, fun D hD bk => ?_⟩
            have rl : rws.length = kvs.length := by
              have := pm.length_eq
              simpa using this
            refine blk_invm (fx_list l (rws.map fun r => V.ref r.1)) (fun i acc Hb => Same (upd Hc l (.lst (rws.map fun r => V.ref r.1))) Hb ∧ Hb D = some (.lst acc) ∧ ∃ rs : List RuleT, RXs Hb (rs.map ruleD) acc ∧ (rs.map fun r => ([.inr r.1, .inl r.2.1] : List Key)) = (rws.map (·.2)).take i ∧ ∀ r ∈ rs, RuleOk (rows.map (·.2.1)) r)
              ⟨Same.upd hD, upd_same, [], rfl, rfl, by simp⟩ (fun i acc Hb _ h => SqL.of (h.1 _ _ upd_same)) (fun i acc Hb hi' h => ?_) (by rw [List.length_map, sizeLine_eq]; omega) (fun i acc Hb hi' ⟨s1, d1, rs, rd, ks, ok1⟩ QY qy => ?_) (fun acc Hb ⟨s1, d1, rs, rd, ks, ok1⟩ => ?_)
            · obtain ⟨_, d1, rs, rd, ks, _⟩ := h
              refine ⟨d1, ?_⟩
              rw [rds_len rd, List.length_map]
              have := congrArg List.length ks
              rw [List.length_map, List.length_take] at this
              omega
            · rw [List.length_map] at hi'
              have ei : (rws.map fun r => V.ref r.1).getD i .non = .ref rws[i].1 := by simp [List.getD, hi']
              have mk : rws[i].2 ∈ kvs.map (·.1) := pm.mem_iff.mp (List.mem_map.mpr ⟨rws[i], List.getElem_mem hi', rfl⟩)
              obtain ⟨v, hv, mv⟩ := valV_mem mk
              obtain ⟨r, er, rok, rdr⟩ := (hi.rv _ mv).ex
              have er' : rws[i].2 = [.inr r.1, .inl r.2.1] := er
              have hbx := hl1.same s1
              have tk : Hb rws[i].1 = some (.tup (rws[i].2.map kV)) := s1 _ _ (sl _ _ (tu rws[i] (List.getElem_mem hi')))
              have g : DGet Hb U (.ref rws[i].1) (some v) := by
                rw [← hv]
                exact DGet.t hbx.ru tk
              refine ⟨_, rfl, _, rfl, _, rfl, U, v, rfl, (by rw [ei]; exact g), by show 1 ≤ sizeLine; decide, fun t ht => ?_⟩
              have st := Same.upd (o := .tup [v]) ht
              have tk2 : (upd Hb t (.tup [v])) rws[i].1 = some (.tup [.str r.1, .int r.2.1]) := by
                rw [er'] at tk
                exact st _ _ tk
              refine ⟨rws[i].1, t, _, [v], ei, rfl, SqT.of tk2, SqT.of upd_same, by simp, by show 2 + 1 ≤ sizeLine; decide, (fun e => absurd e (by simp)), fun _ q' hq' => ?_⟩
              have sq := Same.upd (o := .tup ([.str r.1, .int r.2.1] ++ [v])) hq'
              have ss := st.trans sq
              have Dq := ss _ _ d1
              have tD := upd_ts_l (o := .lst (acc ++ [.ref q'])) Dq
              refine qy _ _ Dq ⟨fun b o e => ?_, upd_same, rs ++ [r], ?_, ?_, fun x hx => ?_⟩
              · rw [upd_ne (ne_of_none e hD)]
                exact ss _ _ (s1 _ _ e)
              · rw [List.map_append]
                refine rds_snoc (rd_ts tD (noL_rule _) ⟨q', _, rfl, upd_same, _, _, rfl, rfl, _, _, rfl, rfl, _, _, rfl, ?_, rfl⟩) (rds_ts (ss.ts.trans tD) (noLs_map noL_rule _) rd)
                exact rd_ts ((sl.ts.trans s1.ts).trans ss.ts) (noL_seats _) rdr
              · rw [List.map_append, ks, List.take_succ]
                have : (rws.map (·.2))[i]? = some rws[i].2 := by simp [hi']
                rw [this, er']
                rfl
              · rcases List.mem_append.mp hx with hx | hx
                · exact ok1 x hx
                · rw [List.mem_singleton.mp hx]
                  exact rok
            · rw [List.length_map, ← List.length_map (f := fun r : Row => r.2), List.take_length] at ks
              have hb1 := hl1.same s1
              refine hW5 _ _ ?_
              refine ⟨_, rfl, ?_⟩
              have ek : ((rows.map ky).map fun r => V.ref r.1) = rows.map fun r => V.ref r.1 := by rw [List.map_map]; rfl
              refine ⟨_, rfl, L, rows.map ky, false, [false], rfl, SqL.of (by rw [ek]; exact hb1.pr.lst), by rw [List.length_map]; omega, fun r hr => ?_, fun l2 rows' hl2 pm2 pwp => ?_⟩
              · obtain ⟨x, hx, rfl⟩ := List.mem_map.mp hr
                exact ⟨hb1.pr.tup x hx, rfl⟩
              have s2 := Same.upd (o := .lst (rows'.map fun r => V.ref r.1)) hl2
              refine ⟨l2, _, rfl, .inl ⟨SqL.of upd_same, fun tp htp => ?_⟩⟩
              have s3 := Same.upd (o := .tup (rows'.map fun r => V.ref r.1)) htp
              have h3 := (hb1.same s2).same s3
              obtain ⟨rvs, er, rdr⟩ := h3.rk
              refine ⟨_, rfl, R, rvs, rfl, .inl ⟨SqL.of er, fun tr htr => ?_⟩⟩
              have s4 := Same.upd (o := .tup rvs) htr
              have h4 := h3.same s4
              obtain ⟨lvs', el, rdl⟩ := h4.lv
              refine ⟨_, rfl, V', lvs', rfl, .inl ⟨SqL.of el, fun tl htl => ?_⟩⟩
              have s5 := Same.upd (o := .tup lvs') htl
              have h5 := h4.same s5
              have s15 := (s2.trans s3).trans (s4.trans s5)
              have D5 := s15 _ _ d1
              refine ⟨_, rfl, D, acc, rfl, .inl ⟨SqL.of D5, fun tu' htu => ?_⟩⟩
              have s6 := Same.upd (o := .tup acc) htu
              have h6 := h5.same s6
              refine ⟨by show 4 ≤ sizeLine; decide, fun th hth => ⟨by show 2 ≤ sizeLine; decide, fun tt htt => ?_⟩⟩
              have s7 := Same.upd (o := .tup [.ref tp, .ref tr, .ref tl, .ref tu']) hth
              have h7 := h6.same s7
              have s8 := Same.upd (o := .tup [.ref L, .ref th]) htt
              have h8 := h7.same s8
              have f8 := (h7.fresh htt).2
              have s78 := s7.trans s8
              have p2 : (rows'.map unk).Perm (rows.map (·.2)) := by
                have e : (rows.map ky).map unk = rows.map (·.2) := by rw [List.map_map]; rfl
                rw [← e]
                exact pm2.map _
              have own' : (rows.map (·.2)).map (·.1) = rows.map (·.2.1) := by rw [List.map_map]; rfl
              refine q tt L th rows ⟨rows'.map unk, rks, lvs, rs⟩ _ f8 hL upd_same h8.pr l1 ok ⟨p2, by rw [List.length_map]; exact l8, h20, h16, ?_, by rw [own']; exact ro, rup, by rw [own']; exact lo, lup, by rw [own']; exact ok1, ?_, by rw [ks]; exact pwu, ?_⟩ ?_ h8.box h8.x0
              · have := congrArg List.length ks
                rw [List.length_map, List.length_map] at this
                show rs.length ≤ 10
                omega
              · have e : (rows'.map unk).map (fun p => ([.inr p.1, .inr p.2] : List Key)) = rows'.map (·.2) := by
                  rw [List.map_map]
                  refine List.map_congr_left fun r hr => ?_
                  obtain ⟨x, hx, rfl⟩ := List.mem_map.mp (pm2.mem_iff.mp hr)
                  rfl
                show ((rows'.map unk).map (fun p => ([.inr p.1, .inr p.2] : List Key))).Pairwise _
                rw [e]
                exact pwp
              · have nd : (rs.map fun r => ([.inr r.1, .inl r.2.1] : List Key)).Nodup := by
                  rw [ks]
                  exact pm.nodup_iff.mpr hi.kn
                rw [List.Nodup, List.pairwise_map] at nd ⊢
                refine nd.imp fun {a b} hab e => hab ?_
                have e1 : a.1 = b.1 := (Prod.mk.inj e).1
                have e2 : a.2.1 = b.2.1 := (Prod.mk.inj e).2
                rw [e1, e2]
              · refine ⟨th, _, rfl, (s8 _ _ upd_same), _, _, rfl, ?_, _, _, rfl, ?_, _, _, rfl, ?_, _, _, rfl, ?_, rfl⟩
                · refine ⟨tp, _, rfl, ((s4.trans (s5.trans (s6.trans s78))) _ _ upd_same), ?_⟩
                  have : (rows'.map unk).map partD = rows'.map fun r => partD (unk r) := by rw [List.map_map]; rfl
                  show RXs _ ((rows'.map unk).map partD) _
                  rw [this]
                  refine rds_refs fun r hr => ?_
                  obtain ⟨x, hx, rfl⟩ := List.mem_map.mp (pm2.mem_iff.mp hr)
                  exact ⟨x.1, _, rfl, (h8.pr.tup x hx), _, _, rfl, rfl, _, _, rfl, rfl, rfl⟩
                · exact ⟨tr, _, rfl, ((s5.trans (s6.trans s78)) _ _ upd_same), rds_ts (s4.trans (s5.trans (s6.trans s78))).ts (noLs_map noL_rank _) rdr⟩
                · exact ⟨tl, _, rfl, ((s6.trans s78) _ _ upd_same), rds_ts (s5.trans (s6.trans s78)).ts (noLs_map noL_leave _) rdl⟩
                · exact ⟨tu', _, rfl, (s78 _ _ upd_same), rds_ts (s15.trans (s6.trans s78)).ts (noLs_map noL_rule _) rd⟩
end
end K02

set_option maxHeartbeats 4000000
namespace K02
open PySem L2
theorem look_perm {ps qs : List (Str × Str)} (hp : qs.Perm ps) (hn : (ps.map (·.1)).Nodup) : lookP qs = lookP ps := by
  have hn2 : (qs.map (·.1)).Nodup := (hp.map _).nodup_iff.mpr hn
  funext z
  cases e : lookP ps z with
  | some y => exact look_of hn2 (hp.mem_iff.mpr (look_mem e))
  | none =>
    cases e2 : lookP qs z with
    | none => rfl
    | some y =>
      have := look_of hn (hp.mem_iff.mp (look_mem e2))
      rw [e] at this
      cases this
theorem parts_nodup {zs : List Str} {ps : List (Str × Str)} (hz : zs.Nodup) (h : PartsOk zs ps) : (ps.map (·.1)).Nodup := by
  refine List.pairwise_iff_getElem.mpr fun i j hi hj hij e => ?_
  rw [List.length_map] at hi hj
  obtain ⟨a1, _⟩ := h i ps[i] (List.getElem?_eq_getElem hi)
  obtain ⟨a2, _⟩ := h j ps[j] (List.getElem?_eq_getElem hj)
  obtain ⟨b1, c1⟩ := List.getElem?_eq_some_iff.mp a1
  obtain ⟨b2, c2⟩ := List.getElem?_eq_some_iff.mp a2
  rw [List.getElem_map, List.getElem_map] at e
  exact List.pairwise_iff_getElem.mp hz i j b1 b2 hij (c1.trans (e.trans c2.symm))
theorem name_ne {z : Str} (h : nameB z = true) : z ≠ Str.ofString "" := fun e => by
  subst e
  have : nameB (Str.ofString "") = false := by decide +kernel
  rw [this] at h
  cases h
theorem adj_pw {α : Type} {f : α → α → Bool} : ∀ {l : List α}, l.Pairwise (fun a b => f a b = true) → adj f l = true
  | [], _ => rfl
  | [a], _ => rfl
  | a :: b :: r, h => by
    obtain ⟨h1, h2⟩ := List.pairwise_cons.mp h
    show (f a b && adj f (b :: r)) = true
    rw [h1 b List.mem_cons_self, adj_pw h2]
    rfl
theorem names_rise {ps : List (Str × Str)} (h : (ps.map fun p => ([.inr p.1, .inr p.2] : List Key)).Pairwise (fun a b => ksLt b a = false)) (hn : (ps.map (·.1)).Nodup) : adj kLt ((ps.map (·.1)).map fun z => (.inr z : Key)) = true := by
  refine adj_pw ?_
  rw [List.map_map, List.pairwise_map]
  rw [List.pairwise_map] at h
  rw [List.Nodup, List.pairwise_map] at hn
  refine (h.and hn).imp fun {a b} hab => ?_
  obtain ⟨h1, h2⟩ := hab
  have e : ksLt ([.inr b.1, .inr b.2] : List Key) [.inr a.1, .inr a.2] = kLt (.inr b.1) (.inr a.1) := by
    unfold ksLt
    rw [if_neg]
    intro e
    exact h2 (Sum.inr.inj e).symm
  rw [e] at h1
  cases g : kLt (.inr a.1) (.inr b.1) with
  | true => exact g
  | false => exact absurd (Sum.inr.inj (kl_tot (a := .inr a.1) (b := .inr b.1) rfl g h1)) h2
theorem keys_rise {rs : List RuleT} (h : (rs.map fun r => ([.inr r.1, .inl r.2.1] : List Key)).Pairwise (fun a b => ksLt b a = false)) (hn : (rs.map fun r => (r.1, r.2.1)).Nodup) : adj ksLt (rs.map fun r => ([.inr r.1, .inl r.2.1] : List Key)) = true := by
  refine adj_pw ?_
  rw [List.pairwise_map] at h ⊢
  rw [List.Nodup, List.pairwise_map] at hn
  refine (h.and hn).imp fun {a b} hab => ?_
  obtain ⟨h1, h2⟩ := hab
  cases g : ksLt ([.inr a.1, .inl a.2.1] : List Key) [.inr b.1, .inl b.2.1] with
  | true => rfl
  | false =>
    have e := ks_tot (a := [.inr a.1, .inl a.2.1]) (b := [.inr b.1, .inl b.2.1]) rfl g h1
    have e1 := Sum.inr.inj (List.cons.inj e).1
    have e2 := Sum.inl.inj (List.cons.inj (List.cons.inj e).2).1
    exact absurd (by rw [e1, e2]) h2
theorem nums_rise {α : Type} {l : List α} {f : α → Int} (h : (l.map f).Pairwise (· < ·)) : adj kLt (l.map fun x => (.inl (f x) : Key)) = true := by
  refine adj_pw ?_
  rw [List.pairwise_map] at h ⊢
  exact h.imp fun {a b} hab => decide_eq_true hab
/-- each part comes to an end -/
theorem ends {zs : List Str} {ps : List (Str × Str)} (hz : zs.Nodup) (h : PartsOk zs ps) : ∀ (i n : Nat) (x : Str × Str), ps[i]? = some x → i < n → endB (lookP ps) n x.1 = true := by
  intro i
  induction i using Nat.strongRecOn with
  | _ i ih =>
    intro n x hx hn
    cases n with
    | zero => omega
    | succ n =>
      have hl : lookP ps x.1 = some x.2 := look_of (parts_nodup hz h) (List.mem_of_getElem? hx)
      rw [endB_succ, hl]
      obtain ⟨_, hw⟩ := h i x hx
      by_cases e : x.2 = Str.ofString ""
      · simp [e]
      · simp only [e, if_false]
        rcases hw with hw | ⟨j, hj, hw⟩
        · exact absurd hw e
        · have hi : i < ps.length := (List.getElem?_eq_some_iff.mp hx).1
          have hy : ps[j]? = some ps[j] := List.getElem?_eq_getElem (by omega)
          obtain ⟨h1, _⟩ := h j _ hy
          have e2 : (ps[j]'(by omega)).1 = x.2 := by
            rw [hw] at h1
            exact (Option.some.inj h1).symm
          have := ih j hj n _ hy (by omega)
          rw [e2] at this
          exact this
theorem inOwn {zs : List Str} {z : Str} (h : z ∈ zs) : inStrs zs (.str z) = true := inStrs_iff.mpr h
theorem days_ok {a b : Int} (h0 : 0 ≤ a) (h1 : a ≤ b) : daysD (.int a) (.int b) = true := by
  have e1 : natD (.int a) = true := decide_eq_true h0
  have e2 : natD (.int b) = true := decide_eq_true (by omega)
  have e3 : leD (.int a) (.int b) = true := decide_eq_true h1
  unfold daysD
  rw [e1, e2, e3]
  rfl
theorem tups_ok {α : Type} {l : List α} {f : α → PyData} {n m : Nat} (h : ∀ x, tupN n (f x) = true) (hl : l.length ≤ m) : tupsN n m (.tuple (l.map f)) = true := by
  show (!decide ((m : Int) < ((l.map f).length : Int)) && (l.map f).all (tupN n)) = true
  rw [List.length_map, decide_eq_false (by omega), List.all_map]
  simp [h]
theorem house_true {zs : List Str} {ps : List (Str × Str)} {hd : HouseT} (nm : Names zs) (ok : PartsOk zs ps) (g : HouseGen zs ps hd) : isHouseD (houseD hd) = true := by
  have nd := parts_nodup nm.1 ok
  have lk := look_perm g.parts nd
  have ndq : (hd.ps.map (·.1)).Nodup := (g.parts.map _).nodup_iff.mpr nd
  have en : namesD (.tuple (hd.ps.map partD)) = hd.ps.map (·.1) := by
    unfold namesD
    show ((hd.ps.map partD).map _) = _
    rw [List.map_map]
    rfl
  have ep : pairsD (.tuple (hd.ps.map partD)) = hd.ps := by
    unfold pairsD
    show ((hd.ps.map partD).map _) = _
    rw [List.map_map]
    exact List.map_id _
  have mem : ∀ z, z ∈ hd.ps.map (·.1) ↔ z ∈ ps.map (·.1) := fun z => (g.parts.map _).mem_iff
  have own : ∀ {z : Str}, z ∈ ps.map (·.1) → inStrs (hd.ps.map (·.1)) (.str z) = true := fun h => inOwn ((mem _).mpr h)
  have nmz : ∀ {z : Str}, z ∈ zs → nameD (.str z) = true := fun h => nm.2 _ h
  have hp : partsD (.tuple (hd.ps.map partD)) = true := by
    unfold partsD
    rw [en, ep]
    have a1 : tupsN 2 8 (.tuple (hd.ps.map partD)) = true := tups_ok (n := 2) (m := 8) (fun _ => rfl) (by rw [g.parts.length_eq]; exact g.p8)
    have a2 : (tItems (.tuple (hd.ps.map partD))).all (fun x => nameD (firstD x)) = true := by
      show (hd.ps.map partD).all _ = true
      rw [List.all_map, List.all_eq_true]
      intro x hx
      obtain ⟨i, hi, e⟩ := List.getElem_of_mem (g.parts.mem_iff.mp hx)
      obtain ⟨h1, _⟩ := ok i _ (List.getElem?_eq_getElem hi)
      rw [e] at h1
      exact nm.2 _ (List.mem_of_getElem? h1)
    have a3 := names_rise g.pup ndq
    have a4 : (tItems (.tuple (hd.ps.map partD))).all (withinB (hd.ps.map (·.1))) = true := by
      show (hd.ps.map partD).all _ = true
      rw [List.all_map, List.all_eq_true]
      intro x hx
      obtain ⟨i, hi, e⟩ := List.getElem_of_mem (g.parts.mem_iff.mp hx)
      obtain ⟨_, h2⟩ := ok i _ (List.getElem?_eq_getElem hi)
      rw [e] at h2
      show (eqStr (Str.ofString "") (.str x.2) || inStrs (hd.ps.map (·.1)) (.str x.2)) = true
      rcases h2 with h2 | ⟨j, hj, h2⟩
      · have : eqStr (Str.ofString "") (.str x.2) = true := decide_eq_true h2
        rw [this]
        rfl
      · have hy : ps[j]? = some ps[j] := List.getElem?_eq_getElem (by omega)
        obtain ⟨h3, _⟩ := ok j _ hy
        have e2 : (ps[j]'(by omega)).1 = x.2 := by
          rw [h2] at h3
          exact (Option.some.inj h3).symm
        have : inStrs (hd.ps.map (·.1)) (.str x.2) = true := own (by rw [← e2]; exact List.mem_map.mpr ⟨_, List.getElem_mem (by omega), rfl⟩)
        rw [this, Bool.or_true]
    have a5 : (hd.ps.map (·.1)).all (endB (lookP hd.ps) hd.ps.length) = true := by
      rw [List.all_eq_true]
      intro z hz
      obtain ⟨x, hx, rfl⟩ := List.mem_map.mp hz
      obtain ⟨i, hi, e⟩ := List.getElem_of_mem (g.parts.mem_iff.mp hx)
      rw [lk, g.parts.length_eq]
      have := ends nm.1 ok i ps.length _ (List.getElem?_eq_getElem hi) hi
      rw [e] at this
      exact this
    rw [a1, a2, a3, a4, a5]
    rfl
  have hr : ranksD (hd.ps.map (·.1)) (.tuple (hd.ranks.map rankD)) = true := by
    unfold ranksD
    have a1 : tupsN 6 20 (.tuple (hd.ranks.map rankD)) = true := tups_ok (n := 6) (m := 20) (fun _ => rfl) g.r20
    have a2 : (tItems (.tuple (hd.ranks.map rankD))).all (rankRowD (hd.ps.map (·.1))) = true := by
      show (hd.ranks.map rankD).all _ = true
      rw [List.all_map, List.all_eq_true]
      intro x hx
      have k := g.ranks x hx
      show (natD (.int x.1) && nameD (.str x.2.1) && rkD (.int x.2.2.1) && (inStrs (hd.ps.map (·.1)) (.str x.2.2.2.1) && daysD (.int x.2.2.2.2.1) (.int x.2.2.2.2.2))) = true
      rw [show natD (.int x.1) = true from decide_eq_true k.num.1, nmz k.who, own k.part, days_ok k.days.1 k.days.2.1]
      show (true && true && (decide (1 ≤ x.2.2.1) && decide (x.2.2.1 ≤ 9)) && (true && true)) = true
      rw [decide_eq_true k.rank.1, decide_eq_true k.rank.2]
      rfl
    have a3 : adj kLt ((tItems (.tuple (hd.ranks.map rankD))).map numKey) = true := by
      show adj kLt ((hd.ranks.map rankD).map numKey) = true
      rw [List.map_map]
      exact nums_rise (f := fun r : RankT => r.1) g.rup
    rw [a1, a2, a3]
    rfl
  have hl : leavesD (hd.ps.map (·.1)) (.tuple (hd.leaves.map leaveD)) = true := by
    unfold leavesD
    have a1 : tupsN 7 16 (.tuple (hd.leaves.map leaveD)) = true := tups_ok (n := 7) (m := 16) (fun _ => rfl) g.l16
    have a2 : (tItems (.tuple (hd.leaves.map leaveD))).all (leaveRowD (hd.ps.map (·.1))) = true := by
      show (hd.leaves.map leaveD).all _ = true
      rw [List.all_map, List.all_eq_true]
      intro x hx
      have k := g.leaves x hx
      show (natD (.int x.1) && natD (.int x.2.2.2.2.2.2) && (nameD (.str x.2.1) && nameD (.str x.2.2.1) && !decide (x.2.1 = x.2.2.1)) && (inStrs (hd.ps.map (·.1)) (.str x.2.2.2.1) && daysD (.int x.2.2.2.2.1) (.int x.2.2.2.2.2.1))) = true
      rw [show natD (.int x.1) = true from decide_eq_true k.num.1, show natD (.int x.2.2.2.2.2.2) = true from decide_eq_true k.most.1, nmz k.giver, nmz k.taker, decide_eq_false k.ne, own k.part, days_ok k.days.1 k.days.2.1]
      rfl
    have a3 : adj kLt ((tItems (.tuple (hd.leaves.map leaveD))).map numKey) = true := by
      show adj kLt ((hd.leaves.map leaveD).map numKey) = true
      rw [List.map_map]
      exact nums_rise (f := fun r : LeaveT => r.1) g.lup
    rw [a1, a2, a3]
    rfl
  have hu : rulesD (hd.ps.map (·.1)) (.tuple (hd.rules.map ruleD)) = true := by
    unfold rulesD
    have a1 : tupsN 3 10 (.tuple (hd.rules.map ruleD)) = true := tups_ok (n := 3) (m := 10) (fun _ => rfl) g.u10
    have a2 : (tItems (.tuple (hd.rules.map ruleD))).all (ruleRowD (hd.ps.map (·.1))) = true := by
      show (hd.rules.map ruleD).all _ = true
      rw [List.all_map, List.all_eq_true]
      intro x hx
      have k := g.rules x hx
      show (inStrs (hd.ps.map (·.1)) (.str x.1) && natD (.int x.2.1) && tupsN 2 6 (seatsD x.2.2) && (x.2.2.map seatD).all (seatRowD (hd.ps.map (·.1)))) = true
      have b1 : tupsN 2 6 (seatsD x.2.2) = true := tups_ok (n := 2) (m := 6) (fun _ => rfl) k.many
      have b2 : (x.2.2.map seatD).all (seatRowD (hd.ps.map (·.1))) = true := by
        rw [List.all_map, List.all_eq_true]
        intro y hy
        obtain ⟨y1, y2, y3⟩ := k.seats y hy
        show ((decide (1 ≤ y.1) && decide (y.1 ≤ 9)) && (eqStr (Str.ofString "") (.str y.2) || inStrs (hd.ps.map (·.1)) (.str y.2))) = true
        rw [decide_eq_true y1, decide_eq_true y2]
        rcases y3 with y3 | y3
        · have : eqStr (Str.ofString "") (.str y.2) = true := decide_eq_true y3
          rw [this]
          rfl
        · rw [own y3, Bool.or_true]
          rfl
      rw [own k.part, show natD (.int x.2.1) = true from decide_eq_true k.sum.1, b1, b2]
      rfl
    have a3 : adj ksLt ((tItems (.tuple (hd.rules.map ruleD))).map ruleKey) = true := by
      show adj ksLt ((hd.rules.map ruleD).map ruleKey) = true
      rw [List.map_map]
      exact keys_rise g.uup g.unlike
    rw [a1, a2, a3]
    rfl
  show (partsD (.tuple (hd.ps.map partD)) && (ranksD (namesD (.tuple (hd.ps.map partD))) (.tuple (hd.ranks.map rankD)) && (leavesD (namesD (.tuple (hd.ps.map partD))) (.tuple (hd.leaves.map leaveD)) && rulesD (namesD (.tuple (hd.ps.map partD))) (.tuple (hd.rules.map ruleD))))) = true
  rw [en, hp, hr, hl, hu]
  rfl
end K02

set_option maxHeartbeats 4000000
namespace K02
open PySem L2
/-! ### a letter eight times that no part is called -/
theorem gd_cast {t : TE} {Γ : Env1} {d d' : PyData} (h : GivesD t Γ d) (e : d = d') : GivesD t Γ d' := e ▸ h
theorem edCast {t : L2.TS} {Γ : Env1} {d d' : PyData} (h : EndsD t Γ d) (e : d = d') : EndsD t Γ d' := e ▸ h
def mul8 : PyData → PyData
  | .str z => .str (repS z 8)
  | d => d
def lets : Str := Str.ofString "abcdefghijk"
def letAt (i : Nat) : Str := ⟨#[lets.cps.getD i 0]⟩
def cands (zs : List Str) : List PyData := (((List.range lets.cps.size).map fun i => PyData.str (letAt i)).filter fun d => !inStrs zs (mul8 d)).map mul8
theorem nd_sub {α : Type} : ∀ (l m : List α), l.Nodup → (∀ x, x ∈ l → x ∈ m) → l.length ≤ m.length
  | [], _, _, _ => Nat.zero_le _
  | a :: l, m, nd, h => by
    obtain ⟨m1, m2, rfl⟩ := List.append_of_mem (h a (List.mem_cons_self ..))
    have nd' := List.nodup_cons.mp nd
    have := nd_sub l (m1 ++ m2) nd'.2 fun x hx => by
      have := h x (List.mem_cons_of_mem _ hx)
      rcases List.mem_append.mp this with q | q
      · exact List.mem_append_left _ q
      · rcases List.mem_cons.mp q with rfl | q
        · exact absurd hx nd'.1
        · exact List.mem_append_right _ q
    simp only [List.length_cons, List.length_append] at this ⊢
    omega
theorem in_mem {zs : List Str} {z : Str} : inStrs zs (.str z) = true ↔ z ∈ zs := by
  unfold inStrs
  rw [List.any_eq_true]
  constructor
  · rintro ⟨x, hx, e⟩
    have : z = x := by simpa [eqStr] using e
    exact this.symm ▸ hx
  · exact fun h => ⟨z, h, by simp [eqStr]⟩
def eights : List Str := (List.range 11).map fun i => repS (letAt i) 8
theorem eights_nd : eights.Nodup := by decide +kernel
theorem eights_names : eights.all (fun z => nameB z) = true := by decide +kernel
theorem cands_eq (zs : List Str) : cands zs = (eights.filter fun z => !inStrs zs (.str z)).map PyData.str := by
  have e : lets.cps.size = 11 := by decide +kernel
  unfold cands eights
  rw [e, List.filter_map, List.filter_map, List.map_map, List.map_map]
  rfl
theorem cands_some {zs : List Str} (h : zs.length ≤ 8) : ∃ s, (cands zs)[0]? = some (.str s) ∧ nameB s = true ∧ inStrs zs (.str s) = false ∧ s.length = 8 := by
  rw [cands_eq]
  cases e : eights.filter fun z => !inStrs zs (.str z) with
  | nil =>
    have := nd_sub eights zs eights_nd fun x hx => in_mem.mp (by
      have := List.filter_eq_nil_iff.mp e x hx
      simpa using this)
    have l : eights.length = 11 := by simp [eights]
    omega
  | cons s r =>
    have hs : s ∈ eights.filter fun z => !inStrs zs (.str z) := by rw [e]; exact List.mem_cons_self ..
    obtain ⟨h1, h2⟩ := List.mem_filter.mp hs
    refine ⟨s, rfl, List.all_eq_true.mp eights_names s h1, by simpa using h2, ?_⟩
    have l8 : eights.all (fun z => decide (z.length = 8)) = true := by decide +kernel
    exact of_decide_eq_true (List.all_eq_true.mp l8 s h1)
end K02

set_option maxHeartbeats 4000000
namespace K02
open PySem L2
structure PartsIn (A : PyData) (as : List PyData) (p : Str) (w : PyData) : Prop where
  hA : A = .tuple (.tuple [.str p, w] :: as)
  pd : partsD A = true
structure BadP (f : PyData → PyData → PyData → PyData → Str → Str → List PyData) (vs : List V) (H : Hp) (Q : VK) : Prop where
  ex : ∃ v A B C E as p w s, vs = [v] ∧ RX H (.tuple [A, B, C, E]) v ∧ PartsIn A as p w ∧ (cands (namesD A))[0]? = some (.str s) ∧ ∀ v' H', Same H H' → RX H' (.list (f A B C E p s)) v' → Q v' H'
def spBad (f : PyData → PyData → PyData → PyData → Str → Str → List PyData) : Sp := fun vs H Q _ => BadP f vs H Q
theorem names_len {A : PyData} (h : partsD A = true) : (namesD A).length ≤ 8 := by
  unfold partsD at h
  simp only [Bool.and_eq_true] at h
  obtain ⟨ds, rfl, dl, _⟩ := tups_of h.1
  simp only [namesD, tItems, List.length_map]
  omega
theorem names_data {as : List PyData} (h : partsD (.tuple as) = true) : as.map firstD = (namesD (.tuple as)).map PyData.str := by
  unfold partsD at h
  simp only [Bool.and_eq_true] at h
  obtain ⟨_, ⟨h2, _⟩, _⟩ := h
  simp only [namesD, tItems, List.map_map] at h2 ⊢
  refine List.map_congr_left fun x hx => ?_
  obtain ⟨z, hz⟩ := name_str (List.all_eq_true.mp h2 x hx)
  simp [hz, strOf]
theorem parts_tup {as : List PyData} (h : partsD (.tuple as) = true) {d : PyData} (hd : d ∈ as) : ∃ a b, d = .tuple [a, b] := by
  unfold partsD at h
  simp only [Bool.and_eq_true] at h
  obtain ⟨h1, _⟩ := h
  simp only [tupsN, Bool.and_eq_true] at h1
  have := List.all_eq_true.mp h1.2 d hd
  cases d with
  | tuple ds =>
    have hl : ds.length = 2 := by have := of_decide_eq_true this; omega
    match ds, hl with
    | [a, b], _ => exact ⟨a, b, rfl⟩
  | _ => cases this
abbrev rMulS : R2 := fun x y H Q => ∃ z n, x = .str z ∧ y = .int n ∧ 2 ≤ n ∧ 1 ≤ z.length ∧ z.length * n.toNat ≤ sizeLine ∧ (repS z n.toNat).length ≤ sizeLine ∧ Q (.str (repS z n.toNat)) H
abbrev rNotIn : R2 := fun x y H Q => ∃ d l zs, y = .ref l ∧ H l = some (.lst (zs.map V.str)) ∧ RX H d x ∧ Q (.bl (!inStrs zs d)) H
theorem let_len (i : Nat) : (letAt i).length = 1 := rfl
theorem rep_len (i : Nat) : (repS (letAt i) 8).length = 8 := by simp [repS, letAt, Str.length, List.replicate]
theorem gd_let8 {Γ : Env1} (i : Nat) : GivesD (tOp rMulS (tVar 0) (tC (.int 8))) (some (.str (letAt i)) :: Γ) (mul8 (.str (letAt i))) :=
  gd_mulS (gd_var rfl) gd_int (by decide) (by rw [let_len]; decide) (by rw [let_len, sizeLine_eq]; decide) (by show (repS (letAt i) 8).length ≤ _; rw [rep_len, sizeLine_eq]; decide)
theorem gd_strange {Γ : Env1} {K : PySem.W.Frag} {tp : Bk → TE} {js js2 : List Nat} {as : List PyData} {s : Str} (pd : partsD (.tuple as) = true ∧ (cands (namesD (.tuple as)))[0]? = some (.str s)) (hp : ∀ b d, GivesD (tp b) (some d :: js.map fun j => (Γ[j]?).join) (.tuple as)) :
    GivesD (tOp (rIxL K) (tLC K (iStr (tC (.str lets))) .one (fun b => tTest (tOp rNotIn (tOp rMulS (tVar 0) (tC (.int 8))) (tLC K (iTup K (tp b)) .one (fun _ => tAll) (fun _ => tOp (rIxT K) (tVar 0) (tC (.int 0))) js2))) (fun _ => tOp rMulS (tVar 0) (tC (.int 8))) js) (tC (.int 0))) Γ (.str s) := by
  have e11 : lets.cps.size = 11 := by decide +kernel
  have hl : as.length ≤ 10000 := by
    have := names_len pd.1
    simp only [namesD, tItems, List.length_map] at this
    omega
  refine gdIxL 0 (gd_lcF (s := lets) (c := fun d => !inStrs (namesD (.tuple as)) (mul8 d)) (g := mul8) gd_str (fun b i hi => ?_) (fun b i hi => gd_let8 i) (by omega)) pd.2
  refine gb_notin (gd_let8 i) (gd_cast (gd_lcT (g := firstD) (hp b _) (fun b' d hd => ?_) hl) (congrArg PyData.list (names_data pd.1)))
  obtain ⟨x, y, rfl⟩ := parts_tup pd.1 hd
  exact gdIxT 0 (gd_var rfl) rfl
end K02

set_option maxHeartbeats 4000000
namespace K02
open PySem L2
def partsThings (as : List PyData) (p s : Str) : List PyData := [
  .tuple (as ++ cutD as (some (-1)) none),
  .tuple [.tuple [.str (Str.ofString "a"), .str (Str.ofString "")], .tuple [.str (Str.ofString "b"), .str (Str.ofString "")], .tuple [.str (Str.ofString "c"), .str (Str.ofString "")], .tuple [.str (Str.ofString "d"), .str (Str.ofString "")], .tuple [.str (Str.ofString "e"), .str (Str.ofString "")], .tuple [.str (Str.ofString "f"), .str (Str.ofString "")], .tuple [.str (Str.ofString "g"), .str (Str.ofString "")], .tuple [.str (Str.ofString "h"), .str (Str.ofString "")], .tuple [.str (Str.ofString "i"), .str (Str.ofString "")]],
  .tuple [.tuple [.str p, .str p]],
  .tuple [.tuple [.str p, .str s]],
  .tuple [.tuple [.str p, .str (Str.ofString "")], .tuple [.str p, .str (Str.ofString "")]],
  .tuple [.tuple [.str (Str.ofString "b"), .str (Str.ofString "")], .tuple [.str (Str.ofString "a"), .str (Str.ofString "")]],
  .tuple [.tuple [.str (Str.ofString "a"), .str (Str.ofString "b")], .tuple [.str (Str.ofString "b"), .str (Str.ofString "a")]],
  .tuple [.tuple [.str (Str.ofString "A"), .str (Str.ofString "")]],
  .tuple [.tuple [.str p]],
  .tuple [.tuple [.str p, .str (Str.ofString ""), .str (Str.ofString "")]],
  .tuple [.list [.str p, .str (Str.ofString "")]],
  .list [.tuple [.str p, .str (Str.ofString "")]],
  .tuple [.tuple [.str p, .none]],
  .tuple [.tuple [.str p, .int 0]],
  .tuple [.tuple [.str (Str.ofString ""), .str (Str.ofString "")]],
  .none,
  .int 0,
  .tuple [.tuple [.str (Str.ofString "a"), .str (Str.ofString "c")], .tuple [.str (Str.ofString "b"), .str (Str.ofString "a")], .tuple [.str (Str.ofString "c"), .str (Str.ofString "b")]]]
def ranksThings (p s : Str) : List PyData := [
  .tuple [.tuple [.int 3, .str (Str.ofString "ann"), .int 2, .str p, .int 4, .int 9], .tuple [.int 3, .str (Str.ofString "ann"), .int 2, .str p, .int 4, .int 9]],
  .tuple [.tuple [.int 4, .str (Str.ofString "ann"), .int 2, .str p, .int 4, .int 9], .tuple [.int 3, .str (Str.ofString "ann"), .int 2, .str p, .int 4, .int 9]],
  .tuple [.tuple [.int (-1), .str (Str.ofString "ann"), .int 2, .str p, .int 4, .int 9]],
  .tuple [.tuple [.bool true, .str (Str.ofString "ann"), .int 2, .str p, .int 4, .int 9]],
  .tuple [.tuple [.int 3, .str (Str.ofString "ann"), .int 2, .str p, .int 4]],
  .tuple [.tuple [.int 3, .str (Str.ofString "ann"), .int 2, .str p, .int 4, .int 9, .int 1]],
  .tuple [.tuple [.int 3, .str (Str.ofString "ann"), .int 0, .str p, .int 4, .int 9]],
  .tuple [.tuple [.int 3, .str (Str.ofString "ann"), .int 10, .str p, .int 4, .int 9]],
  .tuple [.tuple [.int 3, .str (Str.ofString "ann"), .bool true, .str p, .int 4, .int 9]],
  .tuple [.tuple [.int 3, .str (Str.ofString "ann"), .int 2, .str s, .int 4, .int 9]],
  .tuple [.tuple [.int 3, .str (Str.ofString "ann"), .int 2, .str (Str.ofString ""), .int 4, .int 9]],
  .tuple [.tuple [.int 3, .str (Str.ofString "ann"), .int 2, .str p, .int 9, .int 4]],
  .list [.tuple [.int 3, .str (Str.ofString "ann"), .int 2, .str p, .int 4, .int 9]],
  .tuple [.list [.int 3, .str (Str.ofString "ann"), .int 2, .str p, .int 4, .int 9]],
  .tuple [.tuple [.str (Str.ofString "3"), .str (Str.ofString "ann"), .int 2, .str p, .int 4, .int 9]],
  .tuple [.tuple [.int 3, .str (Str.ofString "Ann"), .int 2, .str p, .int 4, .int 9]],
  .tuple [.tuple [.int 3, .str (Str.ofString ""), .int 2, .str p, .int 4, .int 9]],
  .tuple [.tuple [.int 3, .str (Str.ofString "ann"), .int 2, .str p, .int (-2), .int 9]],
  .tuple [.tuple [.int 3, .str (Str.ofString "ann"), .int 2, .str p, .int 4, .none]],
  .tuple [.tuple [.int 0, .str (Str.ofString "ann"), .int 2, .str p, .int 4, .int 9], .tuple [.int 1, .str (Str.ofString "ann"), .int 2, .str p, .int 4, .int 9], .tuple [.int 2, .str (Str.ofString "ann"), .int 2, .str p, .int 4, .int 9], .tuple [.int 3, .str (Str.ofString "ann"), .int 2, .str p, .int 4, .int 9], .tuple [.int 4, .str (Str.ofString "ann"), .int 2, .str p, .int 4, .int 9], .tuple [.int 5, .str (Str.ofString "ann"), .int 2, .str p, .int 4, .int 9], .tuple [.int 6, .str (Str.ofString "ann"), .int 2, .str p, .int 4, .int 9], .tuple [.int 7, .str (Str.ofString "ann"), .int 2, .str p, .int 4, .int 9], .tuple [.int 8, .str (Str.ofString "ann"), .int 2, .str p, .int 4, .int 9], .tuple [.int 9, .str (Str.ofString "ann"), .int 2, .str p, .int 4, .int 9], .tuple [.int 10, .str (Str.ofString "ann"), .int 2, .str p, .int 4, .int 9], .tuple [.int 11, .str (Str.ofString "ann"), .int 2, .str p, .int 4, .int 9], .tuple [.int 12, .str (Str.ofString "ann"), .int 2, .str p, .int 4, .int 9], .tuple [.int 13, .str (Str.ofString "ann"), .int 2, .str p, .int 4, .int 9], .tuple [.int 14, .str (Str.ofString "ann"), .int 2, .str p, .int 4, .int 9], .tuple [.int 15, .str (Str.ofString "ann"), .int 2, .str p, .int 4, .int 9], .tuple [.int 16, .str (Str.ofString "ann"), .int 2, .str p, .int 4, .int 9], .tuple [.int 17, .str (Str.ofString "ann"), .int 2, .str p, .int 4, .int 9], .tuple [.int 18, .str (Str.ofString "ann"), .int 2, .str p, .int 4, .int 9], .tuple [.int 19, .str (Str.ofString "ann"), .int 2, .str p, .int 4, .int 9], .tuple [.int 20, .str (Str.ofString "ann"), .int 2, .str p, .int 4, .int 9]],
  .tuple [.tuple [.int 3, .int 3, .int 2, .str p, .int 4, .int 9]]]
def leavesThings (p s : Str) : List PyData := [
  .tuple [.tuple [.int 3, .str (Str.ofString "ann"), .str (Str.ofString "ben"), .str p, .int 4, .int 9, .int 50], .tuple [.int 3, .str (Str.ofString "ann"), .str (Str.ofString "ben"), .str p, .int 4, .int 9, .int 50]],
  .tuple [.tuple [.int 4, .str (Str.ofString "ann"), .str (Str.ofString "ben"), .str p, .int 4, .int 9, .int 50], .tuple [.int 3, .str (Str.ofString "ann"), .str (Str.ofString "ben"), .str p, .int 4, .int 9, .int 50]],
  .tuple [.tuple [.int 3, .str (Str.ofString "ann"), .str (Str.ofString "ben"), .str p, .int 4, .int 9]],
  .tuple [.tuple [.int 3, .str (Str.ofString "ann"), .str (Str.ofString "ben"), .str p, .int 4, .int 9, .int 50, .int 0]],
  .tuple [.tuple [.int 3, .str (Str.ofString "ann"), .str (Str.ofString "ann"), .str p, .int 4, .int 9, .int 50]],
  .list [.tuple [.int 3, .str (Str.ofString "ann"), .str (Str.ofString "ben"), .str p, .int 4, .int 9, .int 50]],
  .tuple [.tuple [.int (-3), .str (Str.ofString "ann"), .str (Str.ofString "ben"), .str p, .int 4, .int 9, .int 50]],
  .tuple [.tuple [.bool false, .str (Str.ofString "ann"), .str (Str.ofString "ben"), .str p, .int 4, .int 9, .int 50]],
  .tuple [.tuple [.int 3, .str (Str.ofString "ann"), .str (Str.ofString "ben"), .str s, .int 4, .int 9, .int 50]],
  .tuple [.tuple [.int 3, .str (Str.ofString "ann"), .str (Str.ofString "ben"), .str p, .int 4, .int 9, .int (-1)]],
  .tuple [.tuple [.int 3, .str (Str.ofString "ann"), .str (Str.ofString "ben"), .str p, .int 4, .int 9, .bool true]],
  .tuple [.tuple [.int 3, .str (Str.ofString "ann"), .str (Str.ofString "ben"), .str p, .int 4, .int 9, .str (Str.ofString "50")]],
  .tuple [.tuple [.int 3, .str (Str.ofString "ann"), .str (Str.ofString ""), .str p, .int 4, .int 9, .int 50]],
  .tuple [.list [.int 3, .str (Str.ofString "ann"), .str (Str.ofString "ben"), .str p, .int 4, .int 9, .int 50]],
  .tuple [.tuple [.int 3, .str (Str.ofString "ann"), .str (Str.ofString "ben"), .str p, .int 9, .int 8, .int 50]],
  .tuple [.tuple [.int 3, .str (Str.ofString "an n"), .str (Str.ofString "ben"), .str p, .int 4, .int 9, .int 50]],
  .tuple [.tuple [.int 3, .str (Str.ofString "ann"), .str (Str.ofString "ben"), .str (Str.ofString ""), .int 4, .int 9, .int 50]],
  .tuple [.tuple [.int 3, .str (Str.ofString "ann"), .str (Str.ofString "ben"), .str p, .bool false, .int 8, .int 50]],
  .tuple [.tuple [.int 0, .str (Str.ofString "ann"), .str (Str.ofString "ben"), .str p, .int 4, .int 9, .int 50], .tuple [.int 1, .str (Str.ofString "ann"), .str (Str.ofString "ben"), .str p, .int 4, .int 9, .int 50], .tuple [.int 2, .str (Str.ofString "ann"), .str (Str.ofString "ben"), .str p, .int 4, .int 9, .int 50], .tuple [.int 3, .str (Str.ofString "ann"), .str (Str.ofString "ben"), .str p, .int 4, .int 9, .int 50], .tuple [.int 4, .str (Str.ofString "ann"), .str (Str.ofString "ben"), .str p, .int 4, .int 9, .int 50], .tuple [.int 5, .str (Str.ofString "ann"), .str (Str.ofString "ben"), .str p, .int 4, .int 9, .int 50], .tuple [.int 6, .str (Str.ofString "ann"), .str (Str.ofString "ben"), .str p, .int 4, .int 9, .int 50], .tuple [.int 7, .str (Str.ofString "ann"), .str (Str.ofString "ben"), .str p, .int 4, .int 9, .int 50], .tuple [.int 8, .str (Str.ofString "ann"), .str (Str.ofString "ben"), .str p, .int 4, .int 9, .int 50], .tuple [.int 9, .str (Str.ofString "ann"), .str (Str.ofString "ben"), .str p, .int 4, .int 9, .int 50], .tuple [.int 10, .str (Str.ofString "ann"), .str (Str.ofString "ben"), .str p, .int 4, .int 9, .int 50], .tuple [.int 11, .str (Str.ofString "ann"), .str (Str.ofString "ben"), .str p, .int 4, .int 9, .int 50], .tuple [.int 12, .str (Str.ofString "ann"), .str (Str.ofString "ben"), .str p, .int 4, .int 9, .int 50], .tuple [.int 13, .str (Str.ofString "ann"), .str (Str.ofString "ben"), .str p, .int 4, .int 9, .int 50], .tuple [.int 14, .str (Str.ofString "ann"), .str (Str.ofString "ben"), .str p, .int 4, .int 9, .int 50], .tuple [.int 15, .str (Str.ofString "ann"), .str (Str.ofString "ben"), .str p, .int 4, .int 9, .int 50], .tuple [.int 16, .str (Str.ofString "ann"), .str (Str.ofString "ben"), .str p, .int 4, .int 9, .int 50]]]
def rulesThings (p s : Str) : List PyData := [
  .tuple [.tuple [.str p, .int 50, .tuple [.tuple [.int 2, .str (Str.ofString "")], .tuple [.int 2, .str p]]], .tuple [.str p, .int 50, .tuple [.tuple [.int 2, .str (Str.ofString "")], .tuple [.int 2, .str p]]]],
  .tuple [.tuple [.str p, .int 50, .tuple [.tuple [.int 2, .str (Str.ofString "")], .tuple [.int 2, .str p]]], .tuple [.str p, .int 50, .tuple []]],
  .tuple [.tuple [.str p, .int 50, .tuple []], .tuple [.str p, .int 50, .tuple [.tuple [.int 2, .str (Str.ofString "")], .tuple [.int 2, .str p]]]],
  .tuple [.tuple [.str p, .int 60, .tuple []], .tuple [.str p, .int 50, .tuple [.tuple [.int 2, .str (Str.ofString "")], .tuple [.int 2, .str p]]]],
  .tuple [.tuple [.str s, .int 50, .tuple []]],
  .tuple [.tuple [.str (Str.ofString ""), .int 50, .tuple []]],
  .tuple [.tuple [.str p, .int 50]],
  .tuple [.tuple [.str p, .int (-1), .tuple []]],
  .tuple [.tuple [.str p, .bool true, .tuple []]],
  .tuple [.tuple [.str p, .int 50, .tuple [.tuple [.int 0, .str (Str.ofString "")]]]],
  .tuple [.tuple [.str p, .int 50, .tuple [.tuple [.int 10, .str (Str.ofString "")]]]],
  .list [.tuple [.str p, .int 50, .tuple [.tuple [.int 2, .str (Str.ofString "")], .tuple [.int 2, .str p]]]],
  .tuple [.tuple [.str p, .int 50, .tuple [.tuple [.int 2, .str s]]]],
  .tuple [.tuple [.str p, .int 50, .tuple [.tuple [.int 2]]]],
  .tuple [.tuple [.str p, .int 50, .tuple [.tuple [.int 2, .str (Str.ofString ""), .str (Str.ofString "")]]]],
  .tuple [.list [.str p, .int 50, .tuple [.tuple [.int 2, .str (Str.ofString "")], .tuple [.int 2, .str p]]]],
  .tuple [.tuple [.str p, .int 50, .list [.tuple [.int 2, .str (Str.ofString "")]]]],
  .tuple [.tuple [.str p, .int 50, .tuple [.tuple [.int 2, .none]]]],
  .tuple [.tuple [.str p, .int 50, .tuple [.tuple [.int 2, .str (Str.ofString "")], .tuple [.int 2, .str (Str.ofString "")], .tuple [.int 2, .str (Str.ofString "")], .tuple [.int 2, .str (Str.ofString "")], .tuple [.int 2, .str (Str.ofString "")], .tuple [.int 2, .str (Str.ofString "")], .tuple [.int 2, .str (Str.ofString "")]]]],
  .tuple [.tuple [.str p, .int 50, .tuple [.tuple [.int 2, .str (Str.ofString "")], .tuple [.int 2, .str p]], .tuple []]],
  .tuple [.tuple [.str p, .str (Str.ofString "50"), .tuple []]],
  .tuple [.tuple [.str p, .int 50, .tuple [.tuple [.str (Str.ofString ""), .int 2]]]],
  .tuple [.tuple [.str p, .int 0, .tuple []], .tuple [.str p, .int 1, .tuple []], .tuple [.str p, .int 2, .tuple []], .tuple [.str p, .int 3, .tuple []], .tuple [.str p, .int 4, .tuple []], .tuple [.str p, .int 5, .tuple []], .tuple [.str p, .int 6, .tuple []], .tuple [.str p, .int 7, .tuple []], .tuple [.str p, .int 8, .tuple []], .tuple [.str p, .int 9, .tuple []], .tuple [.str p, .int 10, .tuple []]]]
def badRanks (A B C E : PyData) (p s : Str) : List PyData := (ranksThings p s).map fun d => .tuple [A, d, C, E]
def badLeaves (A B C E : PyData) (p s : Str) : List PyData := (leavesThings p s).map fun d => .tuple [A, B, d, E]
def badRules (A B C E : PyData) (p s : Str) : List PyData := (rulesThings p s).map fun d => .tuple [A, B, C, d]
def badParts (A B C E : PyData) (p s : Str) : List PyData := (partsThings (tItems A) p s).map fun d => .tuple [d, B, C, E]
section
variable {P : Program} {w : World} {K : PySem.W.Frag} {mg : Str → Option Value} {base : Heap} {k_HIGHEST_RANK k_LOWEST_RANK k_MOST_LEAVES k_MOST_LETTERS k_MOST_PARTS k_MOST_RANKS k_MOST_RULES k_MOST_SEATS : Tok}
theorem ok_Lbad_ranks {f : Addr} {fd : FuncData} (F : Fun K "_law_bad_ranks" "_law_bad_ranks" s_Lbad_ranks f fd) (T : Txt K mg k_HIGHEST_RANK k_LOWEST_RANK k_MOST_LEAVES k_MOST_LETTERS k_MOST_PARTS k_MOST_RANKS k_MOST_RULES k_MOST_SEATS) : FnOk P w K mg base CX0 1 f fd ["_law_house_here"] (spBad badRanks) := by
  refine F.ok sc_Lbad_ranks (fun vs H Q E h => ?_) (fun cdv A outer s H vs Q E hr h => ?_)
  · obtain ⟨v, A, B, C, E, as, p, w, s, rfl, _⟩ := BadP.ex h
    rfl
  · obtain ⟨v, A, B, C, E, as, p, w, s, rfl, hv, ⟨rfl, pd0⟩, hs, q⟩ := BadP.ex h
    clear h
    have pd := And.intro pd0 hs
    refine ⟨_, (pss_cons (ps_set (i := 1) sc_Lbad_ranks.nd rfl (Or.inr rfl) (pe_ix ix_tup (pe_ix ix_tup (pe_ix ix_tup (pv 0) pe_int (fun _ _ => rfl)) pe_int (fun _ _ => rfl)) pe_int (fun _ _ => rfl))) (pss_cons (ps_set (i := 2) sc_Lbad_ranks.nd rfl (Or.inl rfl) (pe_ix ix_list (pe_lc (T := .one) (NT := (["_law_letter"] : List Str)) (NF := (["_law_house_here"] : List Str)) (js := [0]) (BlkC.ok (N0 := (["_law_house_here", "_law_part", "_law_strange", "_law_row", "_law_some"] : List Str)) (osc := defScope s_Lbad_ranks) (by decide +kernel) rfl rfl) (⟨_, ⟨_, rfl⟩, rfl⟩) rfl (pi_str pe_str) (fun b => ⟨(pts_one (pt_cmpR (op_notin_strs hr.units1) (pe_op op_mul_str (pv 0) pe_int) (pe_lc (T := .one) (NT := (["_law_row"] : List Str)) (NF := ([] : List Str)) (js := []) (BlkC.ok (N0 := (["_law_letter", "_law_house_here"] : List Str)) (osc := relabelS _ (defScope s_Lbad_ranks)) (by decide +kernel) rfl rfl) (⟨_, ⟨_, rfl⟩, rfl⟩) rfl (pi_tup (pe_ix ix_tup (pv 1) pe_int (fun _ _ => rfl))) (fun b => ⟨pts_nil, (pe_ix ix_tup (pv 0) pe_int (fun _ _ => rfl))⟩)) (by with_unfolding_all rfl))), (pe_op op_mul_str (pv 0) pe_int)⟩)) pe_int (fun _ _ => rfl))) (pss_cons (ps_set (i := 3) sc_Lbad_ranks.nd rfl (Or.inl rfl) (pe_tup (pa_cons pe_int (pa_cons pe_str (pa_cons pe_int (pa_cons (pv 1) (pa_cons pe_int (pa_cons pe_int pa_nil)))))))) (pss_cons (ps_set (i := 4) sc_Lbad_ranks.nd rfl (Or.inl rfl) (pe_lst (pa_cons (pe_tup (pa_cons (pv 3) (pa_cons (pv 3) pa_nil))) (pa_cons (pe_tup (pa_cons (pe_op op_catT (pe_tup (pa_cons pe_int pa_nil)) (pe_slice sl_tupA (pv 3) (po_some pe_int) po_none)) (pa_cons (pv 3) pa_nil))) (pa_cons (pe_tup (pa_cons (pe_op op_catT (pe_tup (pa_cons (pe_un un_neg pe_int) pa_nil)) (pe_slice sl_tupA (pv 3) (po_some pe_int) po_none)) pa_nil)) (pa_cons (pe_tup (pa_cons (pe_op op_catT (pe_tup (pa_cons pe_bl pa_nil)) (pe_slice sl_tupA (pv 3) (po_some pe_int) po_none)) pa_nil)) (pa_cons (pe_tup (pa_cons (pe_slice sl_tupA (pv 3) po_none (po_some pe_int)) pa_nil)) (pa_cons (pe_tup (pa_cons (pe_op op_catT (pv 3) (pe_tup (pa_cons pe_int pa_nil))) pa_nil)) pa_nil)))))))) (pss_cons (ps_set (i := 4) sc_Lbad_ranks.nd rfl (Or.inl rfl) (pe_op op_cat (pv 4) (pe_lst (pa_cons (pe_tup (pa_cons (pe_op op_catT (pe_op op_catT (pe_slice sl_tupA (pv 3) po_none (po_some pe_int)) (pe_tup (pa_cons pe_int pa_nil))) (pe_slice sl_tupA (pv 3) (po_some pe_int) po_none)) pa_nil)) (pa_cons (pe_tup (pa_cons (pe_op op_catT (pe_op op_catT (pe_slice sl_tupA (pv 3) po_none (po_some pe_int)) (pe_tup (pa_cons pe_int pa_nil))) (pe_slice sl_tupA (pv 3) (po_some pe_int) po_none)) pa_nil)) (pa_cons (pe_tup (pa_cons (pe_op op_catT (pe_op op_catT (pe_slice sl_tupA (pv 3) po_none (po_some pe_int)) (pe_tup (pa_cons pe_bl pa_nil))) (pe_slice sl_tupA (pv 3) (po_some pe_int) po_none)) pa_nil)) pa_nil)))))) (pss_cons (ps_set (i := 4) sc_Lbad_ranks.nd rfl (Or.inl rfl) (pe_op op_cat (pv 4) (pe_lst (pa_cons (pe_tup (pa_cons (pe_op op_catT (pe_op op_catT (pe_slice sl_tupA (pv 3) po_none (po_some pe_int)) (pe_tup (pa_cons (pv 2) pa_nil))) (pe_slice sl_tupA (pv 3) (po_some pe_int) po_none)) pa_nil)) (pa_cons (pe_tup (pa_cons (pe_op op_catT (pe_op op_catT (pe_slice sl_tupA (pv 3) po_none (po_some pe_int)) (pe_tup (pa_cons pe_str pa_nil))) (pe_slice sl_tupA (pv 3) (po_some pe_int) po_none)) pa_nil)) (pa_cons (pe_tup (pa_cons (pe_op op_catT (pe_slice sl_tupA (pv 3) po_none (po_some pe_int)) (pe_tup (pa_cons pe_int (pa_cons pe_int pa_nil)))) pa_nil)) (pa_cons (pe_lst (pa_cons (pv 3) pa_nil)) pa_nil))))))) (pss_cons (ps_set (i := 4) sc_Lbad_ranks.nd rfl (Or.inl rfl) (pe_op op_cat (pv 4) (pe_lst (pa_cons (pe_tup (pa_cons (pe_callTy call_list_of rfl T.b_list (by decide +kernel) (pa_cons (pv 3) pa_nil)) pa_nil)) (pa_cons (pe_tup (pa_cons (pe_op op_catT (pe_tup (pa_cons pe_str pa_nil)) (pe_slice sl_tupA (pv 3) (po_some pe_int) po_none)) pa_nil)) (pa_cons (pe_tup (pa_cons (pe_op op_catT (pe_tup (pa_cons pe_int (pa_cons pe_str pa_nil))) (pe_slice sl_tupA (pv 3) (po_some pe_int) po_none)) pa_nil)) (pa_cons (pe_tup (pa_cons (pe_op op_catT (pe_tup (pa_cons pe_int (pa_cons pe_str pa_nil))) (pe_slice sl_tupA (pv 3) (po_some pe_int) po_none)) pa_nil)) pa_nil))))))) (pss_cons (ps_set (i := 4) sc_Lbad_ranks.nd rfl (Or.inl rfl) (pe_op op_cat (pv 4) (pe_lst (pa_cons (pe_tup (pa_cons (pe_op op_catT (pe_slice sl_tupA (pv 3) po_none (po_some pe_int)) (pe_tup (pa_cons (pe_un un_neg pe_int) (pa_cons pe_int pa_nil)))) pa_nil)) pa_nil)))) (pss_cons (ps_set (i := 4) sc_Lbad_ranks.nd rfl (Or.inl rfl) (pe_op op_cat (pv 4) (pe_lst (pa_cons (pe_tup (pa_cons (pe_op op_catT (pe_slice sl_tupA (pv 3) po_none (po_some pe_int)) (pe_tup (pa_cons pe_non pa_nil))) pa_nil)) (pa_cons (pe_callTy call_tuple_of rfl T.b_tuple (by decide +kernel) (pa_cons (pe_lc (T := .one) (NT := (["_law_k"] : List Str)) (NF := (["_law_part"] : List Str)) (js := [1]) (BlkC.ok (N0 := (["_law_house_here", "_law_part", "_law_strange", "_law_row", "_law_some"] : List Str)) (osc := defScope s_Lbad_ranks) (by decide +kernel) rfl rfl) (⟨_, ⟨_, rfl⟩, rfl⟩) rfl (pi_range1 rfl T.b_range (pa_cons pe_int pa_nil)) (fun b => ⟨pts_nil, (pe_tup (pa_cons (pv 0) (pa_cons pe_str (pa_cons pe_int (pa_cons (pv 1) (pa_cons pe_int (pa_cons pe_int pa_nil)))))))⟩)) pa_nil)) (pa_cons (pe_tup (pa_cons (pe_op op_catT (pe_tup (pa_cons pe_int (pa_cons pe_int pa_nil))) (pe_slice sl_tupA (pv 3) (po_some pe_int) po_none)) pa_nil)) pa_nil)))))) (pss_one (ps_ret (pe_lc (T := .one) (NT := (["_law_thing"] : List Str)) (NF := (["_law_house_here"] : List Str)) (js := [0]) (BlkC.ok (N0 := (["_law_house_here", "_law_part", "_law_strange", "_law_row", "_law_some"] : List Str)) (osc := defScope s_Lbad_ranks) (by decide +kernel) rfl rfl) (⟨_, ⟨_, rfl⟩, rfl⟩) rfl (pi_list (pv 4)) (fun b => ⟨pts_nil, (pe_op op_catT (pe_op op_catT (pe_slice sl_tupA (pv 1) po_none (po_some pe_int)) (pe_tup (pa_cons (pv 0) pa_nil))) (pe_slice sl_tupA (pv 1) (po_some pe_int) po_none))⟩))))))))))))), ?_⟩
    refine EndsD.use (Γ := [some (.tuple [_, B, C, E]), none, none, none, none]) (edCast (ed_set (gdIxT 0 (gdIxT 0 (gdIxT 0 (gd_var rfl) rfl) rfl) rfl) (ed_set (gd_strange pd (fun b d => gdIxT 0 (gd_var rfl) rfl)) (ed_set (gdTup (gs_cons gd_int (gs_cons gd_str (gs_cons gd_int (gs_cons (gd_var rfl) (gs_cons gd_int (gs_cons gd_int gs_nil)))))) rfl) (ed_set (gdLst (gs_cons (gdTup (gs_cons (gd_var rfl) (gs_cons (gd_var rfl) gs_nil)) rfl) (gs_cons (gdTup (gs_cons (gdCatT (gdTup (gs_cons gd_int gs_nil) rfl) (gd_sl (gd_var rfl) (go_some gd_int) go_none) rfl rfl) (gs_cons (gd_var rfl) gs_nil)) rfl) (gs_cons (gdTup (gs_cons (gdCatT (gdTup (gs_cons (gd_neg gd_int) gs_nil) rfl) (gd_sl (gd_var rfl) (go_some gd_int) go_none) rfl rfl) gs_nil) rfl) (gs_cons (gdTup (gs_cons (gdCatT (gdTup (gs_cons gd_bl gs_nil) rfl) (gd_sl (gd_var rfl) (go_some gd_int) go_none) rfl rfl) gs_nil) rfl) (gs_cons (gdTup (gs_cons (gd_sl (gd_var rfl) go_none (go_some gd_int)) gs_nil) rfl) (gs_cons (gdTup (gs_cons (gdCatT (gd_var rfl) (gdTup (gs_cons gd_int gs_nil) rfl) rfl rfl) gs_nil) rfl) gs_nil)))))) rfl) (ed_set (gdCatL (gd_var rfl) (gdLst (gs_cons (gdTup (gs_cons (gdCatT (gdCatT (gd_sl (gd_var rfl) go_none (go_some gd_int)) (gdTup (gs_cons gd_int gs_nil) rfl) rfl rfl) (gd_sl (gd_var rfl) (go_some gd_int) go_none) rfl rfl) gs_nil) rfl) (gs_cons (gdTup (gs_cons (gdCatT (gdCatT (gd_sl (gd_var rfl) go_none (go_some gd_int)) (gdTup (gs_cons gd_int gs_nil) rfl) rfl rfl) (gd_sl (gd_var rfl) (go_some gd_int) go_none) rfl rfl) gs_nil) rfl) (gs_cons (gdTup (gs_cons (gdCatT (gdCatT (gd_sl (gd_var rfl) go_none (go_some gd_int)) (gdTup (gs_cons gd_bl gs_nil) rfl) rfl rfl) (gd_sl (gd_var rfl) (go_some gd_int) go_none) rfl rfl) gs_nil) rfl) gs_nil))) rfl) rfl) (ed_set (gdCatL (gd_var rfl) (gdLst (gs_cons (gdTup (gs_cons (gdCatT (gdCatT (gd_sl (gd_var rfl) go_none (go_some gd_int)) (gdTup (gs_cons (gd_var rfl) gs_nil) rfl) rfl rfl) (gd_sl (gd_var rfl) (go_some gd_int) go_none) rfl rfl) gs_nil) rfl) (gs_cons (gdTup (gs_cons (gdCatT (gdCatT (gd_sl (gd_var rfl) go_none (go_some gd_int)) (gdTup (gs_cons gd_str gs_nil) rfl) rfl rfl) (gd_sl (gd_var rfl) (go_some gd_int) go_none) rfl rfl) gs_nil) rfl) (gs_cons (gdTup (gs_cons (gdCatT (gd_sl (gd_var rfl) go_none (go_some gd_int)) (gdTup (gs_cons gd_int (gs_cons gd_int gs_nil)) rfl) rfl rfl) gs_nil) rfl) (gs_cons (gdLst (gs_cons (gd_var rfl) gs_nil) rfl) gs_nil)))) rfl) rfl) (ed_set (gdCatL (gd_var rfl) (gdLst (gs_cons (gdTup (gs_cons (gd_list (gs_cons (gd_var rfl) gs_nil)) gs_nil) rfl) (gs_cons (gdTup (gs_cons (gdCatT (gdTup (gs_cons gd_str gs_nil) rfl) (gd_sl (gd_var rfl) (go_some gd_int) go_none) rfl rfl) gs_nil) rfl) (gs_cons (gdTup (gs_cons (gdCatT (gdTup (gs_cons gd_int (gs_cons gd_str gs_nil)) rfl) (gd_sl (gd_var rfl) (go_some gd_int) go_none) rfl rfl) gs_nil) rfl) (gs_cons (gdTup (gs_cons (gdCatT (gdTup (gs_cons gd_int (gs_cons gd_str gs_nil)) rfl) (gd_sl (gd_var rfl) (go_some gd_int) go_none) rfl rfl) gs_nil) rfl) gs_nil)))) rfl) rfl) (ed_set (gdCatL (gd_var rfl) (gdLst (gs_cons (gdTup (gs_cons (gdCatT (gd_sl (gd_var rfl) go_none (go_some gd_int)) (gdTup (gs_cons (gd_neg gd_int) (gs_cons gd_int gs_nil)) rfl) rfl rfl) gs_nil) rfl) gs_nil) rfl) rfl) (ed_set (gdCatL (gd_var rfl) (gdLst (gs_cons (gdTup (gs_cons (gdCatT (gd_sl (gd_var rfl) go_none (go_some gd_int)) (gdTup (gs_cons gd_non gs_nil) rfl) rfl rfl) gs_nil) rfl) (gs_cons (gd_tuple (gs_cons (gdLcR (g := fun d => .tuple [d, .str (Str.ofString "ann"), .int 2, .str p, .int 4, .int 9]) (gs_cons (gd_int (i := ((21 : Nat) : Int))) gs_nil) (fun b d => (gdTup (gs_cons (gd_var rfl) (gs_cons gd_str (gs_cons gd_int (gs_cons (gd_var rfl) (gs_cons gd_int (gs_cons gd_int gs_nil)))))) rfl)) rfl) gs_nil)) (gs_cons (gdTup (gs_cons (gdCatT (gdTup (gs_cons gd_int (gs_cons gd_int gs_nil)) rfl) (gd_sl (gd_var rfl) (go_some gd_int) go_none) rfl rfl) gs_nil) rfl) gs_nil))) rfl) rfl) (ed_ret (gdLcL (g := fun d => .tuple (cutD [_, B, C, E] none (some 1) ++ [d] ++ cutD [_, B, C, E] (some 2) none)) (gd_var rfl) (fun b d => (gdCatT (gdCatT (gd_sl (gd_var rfl) go_none (go_some gd_int)) (gdTup (gs_cons (gd_var rfl) gs_nil) rfl) rfl rfl) (gd_sl (gd_var rfl) (go_some gd_int) go_none) rfl rfl)) rfl))))))))))) (by rfl)) ⟨rfl, fun i d e => ?_⟩ (fun v' H' s' r => q v' H' s' r)
    match i, e with
    | 0, e => cases e; exact ⟨v, rfl, hv⟩
    | 1, e => cases e
    | 2, e => cases e
    | 3, e => cases e
    | 4, e => cases e
theorem ok_Lbad_leaves {f : Addr} {fd : FuncData} (F : Fun K "_law_bad_leaves" "_law_bad_leaves" s_Lbad_leaves f fd) (T : Txt K mg k_HIGHEST_RANK k_LOWEST_RANK k_MOST_LEAVES k_MOST_LETTERS k_MOST_PARTS k_MOST_RANKS k_MOST_RULES k_MOST_SEATS) : FnOk P w K mg base CX0 1 f fd ["_law_house_here"] (spBad badLeaves) := by
  refine F.ok sc_Lbad_leaves (fun vs H Q E h => ?_) (fun cdv A outer s H vs Q E hr h => ?_)
  · obtain ⟨v, A, B, C, E, as, p, w, s, rfl, _⟩ := BadP.ex h
    rfl
  · obtain ⟨v, A, B, C, E, as, p, w, s, rfl, hv, ⟨rfl, pd0⟩, hs, q⟩ := BadP.ex h
    clear h
    have pd := And.intro pd0 hs
    refine ⟨_, (pss_cons (ps_set (i := 1) sc_Lbad_leaves.nd rfl (Or.inr rfl) (pe_ix ix_tup (pe_ix ix_tup (pe_ix ix_tup (pv 0) pe_int (fun _ _ => rfl)) pe_int (fun _ _ => rfl)) pe_int (fun _ _ => rfl))) (pss_cons (ps_set (i := 2) sc_Lbad_leaves.nd rfl (Or.inl rfl) (pe_ix ix_list (pe_lc (T := .one) (NT := (["_law_letter"] : List Str)) (NF := (["_law_house_here"] : List Str)) (js := [0]) (BlkC.ok (N0 := (["_law_house_here", "_law_part", "_law_strange", "_law_row", "_law_some"] : List Str)) (osc := defScope s_Lbad_leaves) (by decide +kernel) rfl rfl) (⟨_, ⟨_, rfl⟩, rfl⟩) rfl (pi_str pe_str) (fun b => ⟨(pts_one (pt_cmpR (op_notin_strs hr.units1) (pe_op op_mul_str (pv 0) pe_int) (pe_lc (T := .one) (NT := (["_law_row"] : List Str)) (NF := ([] : List Str)) (js := []) (BlkC.ok (N0 := (["_law_letter", "_law_house_here"] : List Str)) (osc := relabelS _ (defScope s_Lbad_leaves)) (by decide +kernel) rfl rfl) (⟨_, ⟨_, rfl⟩, rfl⟩) rfl (pi_tup (pe_ix ix_tup (pv 1) pe_int (fun _ _ => rfl))) (fun b => ⟨pts_nil, (pe_ix ix_tup (pv 0) pe_int (fun _ _ => rfl))⟩)) (by with_unfolding_all rfl))), (pe_op op_mul_str (pv 0) pe_int)⟩)) pe_int (fun _ _ => rfl))) (pss_cons (ps_set (i := 3) sc_Lbad_leaves.nd rfl (Or.inl rfl) (pe_tup (pa_cons pe_int (pa_cons pe_str (pa_cons pe_str (pa_cons (pv 1) (pa_cons pe_int (pa_cons pe_int (pa_cons pe_int pa_nil))))))))) (pss_cons (ps_set (i := 4) sc_Lbad_leaves.nd rfl (Or.inl rfl) (pe_lst (pa_cons (pe_tup (pa_cons (pv 3) (pa_cons (pv 3) pa_nil))) (pa_cons (pe_tup (pa_cons (pe_op op_catT (pe_tup (pa_cons pe_int pa_nil)) (pe_slice sl_tupA (pv 3) (po_some pe_int) po_none)) (pa_cons (pv 3) pa_nil))) (pa_cons (pe_tup (pa_cons (pe_slice sl_tupA (pv 3) po_none (po_some pe_int)) pa_nil)) (pa_cons (pe_tup (pa_cons (pe_op op_catT (pv 3) (pe_tup (pa_cons pe_int pa_nil))) pa_nil)) (pa_cons (pe_tup (pa_cons (pe_op op_catT (pe_tup (pa_cons pe_int (pa_cons pe_str (pa_cons pe_str pa_nil)))) (pe_slice sl_tupA (pv 3) (po_some pe_int) po_none)) pa_nil)) (pa_cons (pe_lst (pa_cons (pv 3) pa_nil)) pa_nil)))))))) (pss_cons (ps_set (i := 4) sc_Lbad_leaves.nd rfl (Or.inl rfl) (pe_op op_cat (pv 4) (pe_lst (pa_cons (pe_tup (pa_cons (pe_op op_catT (pe_tup (pa_cons (pe_un un_neg pe_int) pa_nil)) (pe_slice sl_tupA (pv 3) (po_some pe_int) po_none)) pa_nil)) (pa_cons (pe_tup (pa_cons (pe_op op_catT (pe_tup (pa_cons pe_bl pa_nil)) (pe_slice sl_tupA (pv 3) (po_some pe_int) po_none)) pa_nil)) (pa_cons (pe_tup (pa_cons (pe_op op_catT (pe_op op_catT (pe_slice sl_tupA (pv 3) po_none (po_some pe_int)) (pe_tup (pa_cons (pv 2) pa_nil))) (pe_slice sl_tupA (pv 3) (po_some pe_int) po_none)) pa_nil)) pa_nil)))))) (pss_cons (ps_set (i := 4) sc_Lbad_leaves.nd rfl (Or.inl rfl) (pe_op op_cat (pv 4) (pe_lst (pa_cons (pe_tup (pa_cons (pe_op op_catT (pe_slice sl_tupA (pv 3) po_none (po_some pe_int)) (pe_tup (pa_cons (pe_un un_neg pe_int) pa_nil))) pa_nil)) (pa_cons (pe_tup (pa_cons (pe_op op_catT (pe_slice sl_tupA (pv 3) po_none (po_some pe_int)) (pe_tup (pa_cons pe_bl pa_nil))) pa_nil)) (pa_cons (pe_tup (pa_cons (pe_op op_catT (pe_slice sl_tupA (pv 3) po_none (po_some pe_int)) (pe_tup (pa_cons pe_str pa_nil))) pa_nil)) (pa_cons (pe_tup (pa_cons (pe_op op_catT (pe_tup (pa_cons pe_int (pa_cons pe_str (pa_cons pe_str pa_nil)))) (pe_slice sl_tupA (pv 3) (po_some pe_int) po_none)) pa_nil)) pa_nil))))))) (pss_cons (ps_set (i := 4) sc_Lbad_leaves.nd rfl (Or.inl rfl) (pe_op op_cat (pv 4) (pe_lst (pa_cons (pe_tup (pa_cons (pe_callTy call_list_of rfl T.b_list (by decide +kernel) (pa_cons (pv 3) pa_nil)) pa_nil)) (pa_cons (pe_tup (pa_cons (pe_op op_catT (pe_slice sl_tupA (pv 3) po_none (po_some pe_int)) (pe_tup (pa_cons pe_int (pa_cons pe_int (pa_cons pe_int pa_nil))))) pa_nil)) pa_nil))))) (pss_cons (ps_set (i := 4) sc_Lbad_leaves.nd rfl (Or.inl rfl) (pe_op op_cat (pv 4) (pe_lst (pa_cons (pe_tup (pa_cons (pe_op op_catT (pe_tup (pa_cons pe_int (pa_cons pe_str (pa_cons pe_str pa_nil)))) (pe_slice sl_tupA (pv 3) (po_some pe_int) po_none)) pa_nil)) (pa_cons (pe_tup (pa_cons (pe_op op_catT (pe_op op_catT (pe_slice sl_tupA (pv 3) po_none (po_some pe_int)) (pe_tup (pa_cons pe_str pa_nil))) (pe_slice sl_tupA (pv 3) (po_some pe_int) po_none)) pa_nil)) (pa_cons (pe_tup (pa_cons (pe_op op_catT (pe_slice sl_tupA (pv 3) po_none (po_some pe_int)) (pe_tup (pa_cons pe_bl (pa_cons pe_int (pa_cons pe_int pa_nil))))) pa_nil)) pa_nil)))))) (pss_cons (ps_set (i := 4) sc_Lbad_leaves.nd rfl (Or.inl rfl) (pe_op op_cat (pv 4) (pe_lst (pa_cons (pe_callTy call_tuple_of rfl T.b_tuple (by decide +kernel) (pa_cons (pe_lc (T := .one) (NT := (["_law_k"] : List Str)) (NF := (["_law_part"] : List Str)) (js := [1]) (BlkC.ok (N0 := (["_law_house_here", "_law_part", "_law_strange", "_law_row", "_law_some"] : List Str)) (osc := defScope s_Lbad_leaves) (by decide +kernel) rfl rfl) (⟨_, ⟨_, rfl⟩, rfl⟩) rfl (pi_range1 rfl T.b_range (pa_cons pe_int pa_nil)) (fun b => ⟨pts_nil, (pe_tup (pa_cons (pv 0) (pa_cons pe_str (pa_cons pe_str (pa_cons (pv 1) (pa_cons pe_int (pa_cons pe_int (pa_cons pe_int pa_nil))))))))⟩)) pa_nil)) pa_nil)))) (pss_one (ps_ret (pe_lc (T := .one) (NT := (["_law_thing"] : List Str)) (NF := (["_law_house_here"] : List Str)) (js := [0]) (BlkC.ok (N0 := (["_law_house_here", "_law_part", "_law_strange", "_law_row", "_law_some"] : List Str)) (osc := defScope s_Lbad_leaves) (by decide +kernel) rfl rfl) (⟨_, ⟨_, rfl⟩, rfl⟩) rfl (pi_list (pv 4)) (fun b => ⟨pts_nil, (pe_op op_catT (pe_op op_catT (pe_slice sl_tupA (pv 1) po_none (po_some pe_int)) (pe_tup (pa_cons (pv 0) pa_nil))) (pe_slice sl_tupA (pv 1) (po_some pe_int) po_none))⟩))))))))))))), ?_⟩
    refine EndsD.use (Γ := [some (.tuple [_, B, C, E]), none, none, none, none]) (edCast (ed_set (gdIxT 0 (gdIxT 0 (gdIxT 0 (gd_var rfl) rfl) rfl) rfl) (ed_set (gd_strange pd (fun b d => gdIxT 0 (gd_var rfl) rfl)) (ed_set (gdTup (gs_cons gd_int (gs_cons gd_str (gs_cons gd_str (gs_cons (gd_var rfl) (gs_cons gd_int (gs_cons gd_int (gs_cons gd_int gs_nil))))))) rfl) (ed_set (gdLst (gs_cons (gdTup (gs_cons (gd_var rfl) (gs_cons (gd_var rfl) gs_nil)) rfl) (gs_cons (gdTup (gs_cons (gdCatT (gdTup (gs_cons gd_int gs_nil) rfl) (gd_sl (gd_var rfl) (go_some gd_int) go_none) rfl rfl) (gs_cons (gd_var rfl) gs_nil)) rfl) (gs_cons (gdTup (gs_cons (gd_sl (gd_var rfl) go_none (go_some gd_int)) gs_nil) rfl) (gs_cons (gdTup (gs_cons (gdCatT (gd_var rfl) (gdTup (gs_cons gd_int gs_nil) rfl) rfl rfl) gs_nil) rfl) (gs_cons (gdTup (gs_cons (gdCatT (gdTup (gs_cons gd_int (gs_cons gd_str (gs_cons gd_str gs_nil))) rfl) (gd_sl (gd_var rfl) (go_some gd_int) go_none) rfl rfl) gs_nil) rfl) (gs_cons (gdLst (gs_cons (gd_var rfl) gs_nil) rfl) gs_nil)))))) rfl) (ed_set (gdCatL (gd_var rfl) (gdLst (gs_cons (gdTup (gs_cons (gdCatT (gdTup (gs_cons (gd_neg gd_int) gs_nil) rfl) (gd_sl (gd_var rfl) (go_some gd_int) go_none) rfl rfl) gs_nil) rfl) (gs_cons (gdTup (gs_cons (gdCatT (gdTup (gs_cons gd_bl gs_nil) rfl) (gd_sl (gd_var rfl) (go_some gd_int) go_none) rfl rfl) gs_nil) rfl) (gs_cons (gdTup (gs_cons (gdCatT (gdCatT (gd_sl (gd_var rfl) go_none (go_some gd_int)) (gdTup (gs_cons (gd_var rfl) gs_nil) rfl) rfl rfl) (gd_sl (gd_var rfl) (go_some gd_int) go_none) rfl rfl) gs_nil) rfl) gs_nil))) rfl) rfl) (ed_set (gdCatL (gd_var rfl) (gdLst (gs_cons (gdTup (gs_cons (gdCatT (gd_sl (gd_var rfl) go_none (go_some gd_int)) (gdTup (gs_cons (gd_neg gd_int) gs_nil) rfl) rfl rfl) gs_nil) rfl) (gs_cons (gdTup (gs_cons (gdCatT (gd_sl (gd_var rfl) go_none (go_some gd_int)) (gdTup (gs_cons gd_bl gs_nil) rfl) rfl rfl) gs_nil) rfl) (gs_cons (gdTup (gs_cons (gdCatT (gd_sl (gd_var rfl) go_none (go_some gd_int)) (gdTup (gs_cons gd_str gs_nil) rfl) rfl rfl) gs_nil) rfl) (gs_cons (gdTup (gs_cons (gdCatT (gdTup (gs_cons gd_int (gs_cons gd_str (gs_cons gd_str gs_nil))) rfl) (gd_sl (gd_var rfl) (go_some gd_int) go_none) rfl rfl) gs_nil) rfl) gs_nil)))) rfl) rfl) (ed_set (gdCatL (gd_var rfl) (gdLst (gs_cons (gdTup (gs_cons (gd_list (gs_cons (gd_var rfl) gs_nil)) gs_nil) rfl) (gs_cons (gdTup (gs_cons (gdCatT (gd_sl (gd_var rfl) go_none (go_some gd_int)) (gdTup (gs_cons gd_int (gs_cons gd_int (gs_cons gd_int gs_nil))) rfl) rfl rfl) gs_nil) rfl) gs_nil)) rfl) rfl) (ed_set (gdCatL (gd_var rfl) (gdLst (gs_cons (gdTup (gs_cons (gdCatT (gdTup (gs_cons gd_int (gs_cons gd_str (gs_cons gd_str gs_nil))) rfl) (gd_sl (gd_var rfl) (go_some gd_int) go_none) rfl rfl) gs_nil) rfl) (gs_cons (gdTup (gs_cons (gdCatT (gdCatT (gd_sl (gd_var rfl) go_none (go_some gd_int)) (gdTup (gs_cons gd_str gs_nil) rfl) rfl rfl) (gd_sl (gd_var rfl) (go_some gd_int) go_none) rfl rfl) gs_nil) rfl) (gs_cons (gdTup (gs_cons (gdCatT (gd_sl (gd_var rfl) go_none (go_some gd_int)) (gdTup (gs_cons gd_bl (gs_cons gd_int (gs_cons gd_int gs_nil))) rfl) rfl rfl) gs_nil) rfl) gs_nil))) rfl) rfl) (ed_set (gdCatL (gd_var rfl) (gdLst (gs_cons (gd_tuple (gs_cons (gdLcR (g := fun d => .tuple [d, .str (Str.ofString "ann"), .str (Str.ofString "ben"), .str p, .int 4, .int 9, .int 50]) (gs_cons (gd_int (i := ((17 : Nat) : Int))) gs_nil) (fun b d => (gdTup (gs_cons (gd_var rfl) (gs_cons gd_str (gs_cons gd_str (gs_cons (gd_var rfl) (gs_cons gd_int (gs_cons gd_int (gs_cons gd_int gs_nil))))))) rfl)) rfl) gs_nil)) gs_nil) rfl) rfl) (ed_ret (gdLcL (g := fun d => .tuple (cutD [_, B, C, E] none (some 2) ++ [d] ++ cutD [_, B, C, E] (some 3) none)) (gd_var rfl) (fun b d => (gdCatT (gdCatT (gd_sl (gd_var rfl) go_none (go_some gd_int)) (gdTup (gs_cons (gd_var rfl) gs_nil) rfl) rfl rfl) (gd_sl (gd_var rfl) (go_some gd_int) go_none) rfl rfl)) rfl))))))))))) (by rfl)) ⟨rfl, fun i d e => ?_⟩ (fun v' H' s' r => q v' H' s' r)
    match i, e with
    | 0, e => cases e; exact ⟨v, rfl, hv⟩
    | 1, e => cases e
    | 2, e => cases e
    | 3, e => cases e
    | 4, e => cases e
theorem ok_Lbad_rules {f : Addr} {fd : FuncData} (F : Fun K "_law_bad_rules" "_law_bad_rules" s_Lbad_rules f fd) (T : Txt K mg k_HIGHEST_RANK k_LOWEST_RANK k_MOST_LEAVES k_MOST_LETTERS k_MOST_PARTS k_MOST_RANKS k_MOST_RULES k_MOST_SEATS) : FnOk P w K mg base CX0 1 f fd ["_law_house_here"] (spBad badRules) := by
  refine F.ok sc_Lbad_rules (fun vs H Q E h => ?_) (fun cdv A outer s H vs Q E hr h => ?_)
  · obtain ⟨v, A, B, C, E, as, p, w, s, rfl, _⟩ := BadP.ex h
    rfl
  · obtain ⟨v, A, B, C, E, as, p, w, s, rfl, hv, ⟨rfl, pd0⟩, hs, q⟩ := BadP.ex h
    clear h
    have pd := And.intro pd0 hs
    refine ⟨_, (pss_cons (ps_set (i := 1) sc_Lbad_rules.nd rfl (Or.inr rfl) (pe_ix ix_tup (pe_ix ix_tup (pe_ix ix_tup (pv 0) pe_int (fun _ _ => rfl)) pe_int (fun _ _ => rfl)) pe_int (fun _ _ => rfl))) (pss_cons (ps_set (i := 2) sc_Lbad_rules.nd rfl (Or.inl rfl) (pe_ix ix_list (pe_lc (T := .one) (NT := (["_law_letter"] : List Str)) (NF := (["_law_house_here"] : List Str)) (js := [0]) (BlkC.ok (N0 := (["_law_house_here", "_law_part", "_law_strange", "_law_row", "_law_some"] : List Str)) (osc := defScope s_Lbad_rules) (by decide +kernel) rfl rfl) (⟨_, ⟨_, rfl⟩, rfl⟩) rfl (pi_str pe_str) (fun b => ⟨(pts_one (pt_cmpR (op_notin_strs hr.units1) (pe_op op_mul_str (pv 0) pe_int) (pe_lc (T := .one) (NT := (["_law_row"] : List Str)) (NF := ([] : List Str)) (js := []) (BlkC.ok (N0 := (["_law_letter", "_law_house_here"] : List Str)) (osc := relabelS _ (defScope s_Lbad_rules)) (by decide +kernel) rfl rfl) (⟨_, ⟨_, rfl⟩, rfl⟩) rfl (pi_tup (pe_ix ix_tup (pv 1) pe_int (fun _ _ => rfl))) (fun b => ⟨pts_nil, (pe_ix ix_tup (pv 0) pe_int (fun _ _ => rfl))⟩)) (by with_unfolding_all rfl))), (pe_op op_mul_str (pv 0) pe_int)⟩)) pe_int (fun _ _ => rfl))) (pss_cons (ps_set (i := 3) sc_Lbad_rules.nd rfl (Or.inl rfl) (pe_tup (pa_cons (pv 1) (pa_cons pe_int (pa_cons (pe_tup (pa_cons (pe_tup (pa_cons pe_int (pa_cons pe_str pa_nil))) (pa_cons (pe_tup (pa_cons pe_int (pa_cons (pv 1) pa_nil))) pa_nil))) pa_nil))))) (pss_cons (ps_set (i := 4) sc_Lbad_rules.nd rfl (Or.inl rfl) (pe_lst (pa_cons (pe_tup (pa_cons (pv 3) (pa_cons (pv 3) pa_nil))) (pa_cons (pe_tup (pa_cons (pv 3) (pa_cons (pe_tup (pa_cons (pv 1) (pa_cons pe_int (pa_cons (pe_tup pa_nil) pa_nil)))) pa_nil))) (pa_cons (pe_tup (pa_cons (pe_tup (pa_cons (pv 1) (pa_cons pe_int (pa_cons (pe_tup pa_nil) pa_nil)))) (pa_cons (pv 3) pa_nil))) (pa_cons (pe_tup (pa_cons (pe_tup (pa_cons (pv 1) (pa_cons pe_int (pa_cons (pe_tup pa_nil) pa_nil)))) (pa_cons (pv 3) pa_nil))) (pa_cons (pe_tup (pa_cons (pe_tup (pa_cons (pv 2) (pa_cons pe_int (pa_cons (pe_tup pa_nil) pa_nil)))) pa_nil)) pa_nil))))))) (pss_cons (ps_set (i := 4) sc_Lbad_rules.nd rfl (Or.inl rfl) (pe_op op_cat (pv 4) (pe_lst (pa_cons (pe_tup (pa_cons (pe_tup (pa_cons pe_str (pa_cons pe_int (pa_cons (pe_tup pa_nil) pa_nil)))) pa_nil)) (pa_cons (pe_tup (pa_cons (pe_slice sl_tupA (pv 3) po_none (po_some pe_int)) pa_nil)) pa_nil))))) (pss_cons (ps_set (i := 4) sc_Lbad_rules.nd rfl (Or.inl rfl) (pe_op op_cat (pv 4) (pe_lst (pa_cons (pe_tup (pa_cons (pe_tup (pa_cons (pv 1) (pa_cons (pe_un un_neg pe_int) (pa_cons (pe_tup pa_nil) pa_nil)))) pa_nil)) (pa_cons (pe_tup (pa_cons (pe_tup (pa_cons (pv 1) (pa_cons pe_bl (pa_cons (pe_tup pa_nil) pa_nil)))) pa_nil)) (pa_cons (pe_tup (pa_cons (pe_tup (pa_cons (pv 1) (pa_cons pe_int (pa_cons (pe_tup (pa_cons (pe_tup (pa_cons pe_int (pa_cons pe_str pa_nil))) pa_nil)) pa_nil)))) pa_nil)) (pa_cons (pe_tup (pa_cons (pe_tup (pa_cons (pv 1) (pa_cons pe_int (pa_cons (pe_tup (pa_cons (pe_tup (pa_cons pe_int (pa_cons pe_str pa_nil))) pa_nil)) pa_nil)))) pa_nil)) (pa_cons (pe_lst (pa_cons (pv 3) pa_nil)) pa_nil)))))))) (pss_cons (ps_set (i := 4) sc_Lbad_rules.nd rfl (Or.inl rfl) (pe_op op_cat (pv 4) (pe_lst (pa_cons (pe_tup (pa_cons (pe_tup (pa_cons (pv 1) (pa_cons pe_int (pa_cons (pe_tup (pa_cons (pe_tup (pa_cons pe_int (pa_cons (pv 2) pa_nil))) pa_nil)) pa_nil)))) pa_nil)) (pa_cons (pe_tup (pa_cons (pe_tup (pa_cons (pv 1) (pa_cons pe_int (pa_cons (pe_tup (pa_cons (pe_tup (pa_cons pe_int pa_nil)) pa_nil)) pa_nil)))) pa_nil)) (pa_cons (pe_tup (pa_cons (pe_tup (pa_cons (pv 1) (pa_cons pe_int (pa_cons (pe_tup (pa_cons (pe_tup (pa_cons pe_int (pa_cons pe_str (pa_cons pe_str pa_nil)))) pa_nil)) pa_nil)))) pa_nil)) (pa_cons (pe_tup (pa_cons (pe_callTy call_list_of rfl T.b_list (by decide +kernel) (pa_cons (pv 3) pa_nil)) pa_nil)) pa_nil))))))) (pss_cons (ps_set (i := 4) sc_Lbad_rules.nd rfl (Or.inl rfl) (pe_op op_cat (pv 4) (pe_lst (pa_cons (pe_tup (pa_cons (pe_tup (pa_cons (pv 1) (pa_cons pe_int (pa_cons (pe_lst (pa_cons (pe_tup (pa_cons pe_int (pa_cons pe_str pa_nil))) pa_nil)) pa_nil)))) pa_nil)) (pa_cons (pe_tup (pa_cons (pe_tup (pa_cons (pv 1) (pa_cons pe_int (pa_cons (pe_tup (pa_cons (pe_tup (pa_cons pe_int (pa_cons pe_non pa_nil))) pa_nil)) pa_nil)))) pa_nil)) (pa_cons (pe_tup (pa_cons (pe_tup (pa_cons (pv 1) (pa_cons pe_int (pa_cons (pe_op op_repT (pe_tup (pa_cons (pe_tup (pa_cons pe_int (pa_cons pe_str pa_nil))) pa_nil)) pe_int) pa_nil)))) pa_nil)) (pa_cons (pe_tup (pa_cons (pe_op op_catT (pv 3) (pe_tup (pa_cons (pe_tup pa_nil) pa_nil))) pa_nil)) pa_nil))))))) (pss_cons (ps_set (i := 4) sc_Lbad_rules.nd rfl (Or.inl rfl) (pe_op op_cat (pv 4) (pe_lst (pa_cons (pe_tup (pa_cons (pe_tup (pa_cons (pv 1) (pa_cons pe_str (pa_cons (pe_tup pa_nil) pa_nil)))) pa_nil)) (pa_cons (pe_tup (pa_cons (pe_tup (pa_cons (pv 1) (pa_cons pe_int (pa_cons (pe_tup (pa_cons (pe_tup (pa_cons pe_str (pa_cons pe_int pa_nil))) pa_nil)) pa_nil)))) pa_nil)) (pa_cons (pe_callTy call_tuple_of rfl T.b_tuple (by decide +kernel) (pa_cons (pe_lc (T := .one) (NT := (["_law_k"] : List Str)) (NF := (["_law_part"] : List Str)) (js := [1]) (BlkC.ok (N0 := (["_law_house_here", "_law_part", "_law_strange", "_law_row", "_law_some"] : List Str)) (osc := defScope s_Lbad_rules) (by decide +kernel) rfl rfl) (⟨_, ⟨_, rfl⟩, rfl⟩) rfl (pi_range1 rfl T.b_range (pa_cons pe_int pa_nil)) (fun b => ⟨pts_nil, (pe_tup (pa_cons (pv 1) (pa_cons (pv 0) (pa_cons (pe_tup pa_nil) pa_nil))))⟩)) pa_nil)) pa_nil)))))) (pss_one (ps_ret (pe_lc (T := .one) (NT := (["_law_thing"] : List Str)) (NF := (["_law_house_here"] : List Str)) (js := [0]) (BlkC.ok (N0 := (["_law_house_here", "_law_part", "_law_strange", "_law_row", "_law_some"] : List Str)) (osc := defScope s_Lbad_rules) (by decide +kernel) rfl rfl) (⟨_, ⟨_, rfl⟩, rfl⟩) rfl (pi_list (pv 4)) (fun b => ⟨pts_nil, (pe_op op_catT (pe_slice sl_tupA (pv 1) po_none (po_some pe_int)) (pe_tup (pa_cons (pv 0) pa_nil)))⟩))))))))))))), ?_⟩
    refine EndsD.use (Γ := [some (.tuple [_, B, C, E]), none, none, none, none]) (edCast (ed_set (gdIxT 0 (gdIxT 0 (gdIxT 0 (gd_var rfl) rfl) rfl) rfl) (ed_set (gd_strange pd (fun b d => gdIxT 0 (gd_var rfl) rfl)) (ed_set (gdTup (gs_cons (gd_var rfl) (gs_cons gd_int (gs_cons (gdTup (gs_cons (gdTup (gs_cons gd_int (gs_cons gd_str gs_nil)) rfl) (gs_cons (gdTup (gs_cons gd_int (gs_cons (gd_var rfl) gs_nil)) rfl) gs_nil)) rfl) gs_nil))) rfl) (ed_set (gdLst (gs_cons (gdTup (gs_cons (gd_var rfl) (gs_cons (gd_var rfl) gs_nil)) rfl) (gs_cons (gdTup (gs_cons (gd_var rfl) (gs_cons (gdTup (gs_cons (gd_var rfl) (gs_cons gd_int (gs_cons (gdTup gs_nil rfl) gs_nil))) rfl) gs_nil)) rfl) (gs_cons (gdTup (gs_cons (gdTup (gs_cons (gd_var rfl) (gs_cons gd_int (gs_cons (gdTup gs_nil rfl) gs_nil))) rfl) (gs_cons (gd_var rfl) gs_nil)) rfl) (gs_cons (gdTup (gs_cons (gdTup (gs_cons (gd_var rfl) (gs_cons gd_int (gs_cons (gdTup gs_nil rfl) gs_nil))) rfl) (gs_cons (gd_var rfl) gs_nil)) rfl) (gs_cons (gdTup (gs_cons (gdTup (gs_cons (gd_var rfl) (gs_cons gd_int (gs_cons (gdTup gs_nil rfl) gs_nil))) rfl) gs_nil) rfl) gs_nil))))) rfl) (ed_set (gdCatL (gd_var rfl) (gdLst (gs_cons (gdTup (gs_cons (gdTup (gs_cons gd_str (gs_cons gd_int (gs_cons (gdTup gs_nil rfl) gs_nil))) rfl) gs_nil) rfl) (gs_cons (gdTup (gs_cons (gd_sl (gd_var rfl) go_none (go_some gd_int)) gs_nil) rfl) gs_nil)) rfl) rfl) (ed_set (gdCatL (gd_var rfl) (gdLst (gs_cons (gdTup (gs_cons (gdTup (gs_cons (gd_var rfl) (gs_cons (gd_neg gd_int) (gs_cons (gdTup gs_nil rfl) gs_nil))) rfl) gs_nil) rfl) (gs_cons (gdTup (gs_cons (gdTup (gs_cons (gd_var rfl) (gs_cons gd_bl (gs_cons (gdTup gs_nil rfl) gs_nil))) rfl) gs_nil) rfl) (gs_cons (gdTup (gs_cons (gdTup (gs_cons (gd_var rfl) (gs_cons gd_int (gs_cons (gdTup (gs_cons (gdTup (gs_cons gd_int (gs_cons gd_str gs_nil)) rfl) gs_nil) rfl) gs_nil))) rfl) gs_nil) rfl) (gs_cons (gdTup (gs_cons (gdTup (gs_cons (gd_var rfl) (gs_cons gd_int (gs_cons (gdTup (gs_cons (gdTup (gs_cons gd_int (gs_cons gd_str gs_nil)) rfl) gs_nil) rfl) gs_nil))) rfl) gs_nil) rfl) (gs_cons (gdLst (gs_cons (gd_var rfl) gs_nil) rfl) gs_nil))))) rfl) rfl) (ed_set (gdCatL (gd_var rfl) (gdLst (gs_cons (gdTup (gs_cons (gdTup (gs_cons (gd_var rfl) (gs_cons gd_int (gs_cons (gdTup (gs_cons (gdTup (gs_cons gd_int (gs_cons (gd_var rfl) gs_nil)) rfl) gs_nil) rfl) gs_nil))) rfl) gs_nil) rfl) (gs_cons (gdTup (gs_cons (gdTup (gs_cons (gd_var rfl) (gs_cons gd_int (gs_cons (gdTup (gs_cons (gdTup (gs_cons gd_int gs_nil) rfl) gs_nil) rfl) gs_nil))) rfl) gs_nil) rfl) (gs_cons (gdTup (gs_cons (gdTup (gs_cons (gd_var rfl) (gs_cons gd_int (gs_cons (gdTup (gs_cons (gdTup (gs_cons gd_int (gs_cons gd_str (gs_cons gd_str gs_nil))) rfl) gs_nil) rfl) gs_nil))) rfl) gs_nil) rfl) (gs_cons (gdTup (gs_cons (gd_list (gs_cons (gd_var rfl) gs_nil)) gs_nil) rfl) gs_nil)))) rfl) rfl) (ed_set (gdCatL (gd_var rfl) (gdLst (gs_cons (gdTup (gs_cons (gdTup (gs_cons (gd_var rfl) (gs_cons gd_int (gs_cons (gdLst (gs_cons (gdTup (gs_cons gd_int (gs_cons gd_str gs_nil)) rfl) gs_nil) rfl) gs_nil))) rfl) gs_nil) rfl) (gs_cons (gdTup (gs_cons (gdTup (gs_cons (gd_var rfl) (gs_cons gd_int (gs_cons (gdTup (gs_cons (gdTup (gs_cons gd_int (gs_cons gd_non gs_nil)) rfl) gs_nil) rfl) gs_nil))) rfl) gs_nil) rfl) (gs_cons (gdTup (gs_cons (gdTup (gs_cons (gd_var rfl) (gs_cons gd_int (gs_cons (gdRepT (gdTup (gs_cons (gdTup (gs_cons gd_int (gs_cons gd_str gs_nil)) rfl) gs_nil) rfl) gd_int rfl rfl rfl) gs_nil))) rfl) gs_nil) rfl) (gs_cons (gdTup (gs_cons (gdCatT (gd_var rfl) (gdTup (gs_cons (gdTup gs_nil rfl) gs_nil) rfl) rfl rfl) gs_nil) rfl) gs_nil)))) rfl) rfl) (ed_set (gdCatL (gd_var rfl) (gdLst (gs_cons (gdTup (gs_cons (gdTup (gs_cons (gd_var rfl) (gs_cons gd_str (gs_cons (gdTup gs_nil rfl) gs_nil))) rfl) gs_nil) rfl) (gs_cons (gdTup (gs_cons (gdTup (gs_cons (gd_var rfl) (gs_cons gd_int (gs_cons (gdTup (gs_cons (gdTup (gs_cons gd_str (gs_cons gd_int gs_nil)) rfl) gs_nil) rfl) gs_nil))) rfl) gs_nil) rfl) (gs_cons (gd_tuple (gs_cons (gdLcR (g := fun d => .tuple [.str p, d, .tuple []]) (gs_cons (gd_int (i := ((11 : Nat) : Int))) gs_nil) (fun b d => (gdTup (gs_cons (gd_var rfl) (gs_cons (gd_var rfl) (gs_cons (gdTup gs_nil rfl) gs_nil))) rfl)) rfl) gs_nil)) gs_nil))) rfl) rfl) (ed_ret (gdLcL (g := fun d => .tuple (cutD [_, B, C, E] none (some 3) ++ [d])) (gd_var rfl) (fun b d => (gdCatT (gd_sl (gd_var rfl) go_none (go_some gd_int)) (gdTup (gs_cons (gd_var rfl) gs_nil) rfl) rfl rfl)) rfl))))))))))) (by rfl)) ⟨rfl, fun i d e => ?_⟩ (fun v' H' s' r => q v' H' s' r)
    match i, e with
    | 0, e => cases e; exact ⟨v, rfl, hv⟩
    | 1, e => cases e
    | 2, e => cases e
    | 3, e => cases e
    | 4, e => cases e
end
end K02

set_option maxHeartbeats 4000000
namespace K02
open PySem L2
section
variable {P : Program} {w : World} {K : PySem.W.Frag} {mg : Str → Option Value} {base : Heap} {k_HIGHEST_RANK k_LOWEST_RANK k_MOST_LEAVES k_MOST_LETTERS k_MOST_PARTS k_MOST_RANKS k_MOST_RULES k_MOST_SEATS : Tok}
theorem ok_Lbad_parts {f : Addr} {fd : FuncData} (F : Fun K "_law_bad_parts" "_law_bad_parts" s_Lbad_parts f fd) (T : Txt K mg k_HIGHEST_RANK k_LOWEST_RANK k_MOST_LEAVES k_MOST_LETTERS k_MOST_PARTS k_MOST_RANKS k_MOST_RULES k_MOST_SEATS) : FnOk P w K mg base CX0 1 f fd ["_law_house_here"] (spBad badParts) := by
  refine F.ok sc_Lbad_parts (fun vs H Q E h => ?_) (fun cdv A outer s H vs Q E hr h => ?_)
  · obtain ⟨v, A, B, C, E, as, p, w, s, rfl, _⟩ := BadP.ex h
    rfl
  · obtain ⟨v, A, B, C, E, as, p, w, s, rfl, hv, ⟨rfl, pd0⟩, hs, q⟩ := BadP.ex h
    clear h
    have pd := And.intro pd0 hs
    have hle : (PyData.tuple [.str p, w] :: as).length + (cutD (.tuple [.str p, w] :: as) (some (-1)) none).length ≤ 10000 := by
      have h1 := names_len pd0
      simp only [namesD, tItems, List.length_map] at h1
      have h2 : (cutD (.tuple [.str p, w] :: as) (some (-1)) none).length ≤ (PyData.tuple [.str p, w] :: as).length := by
        unfold cutD
        rw [List.length_take, List.length_drop]
        omega
      omega
    refine ⟨_, (pss_cons (ps_asg (pe_tup (pa_cons (pe_ix ix_tup (pv 0) pe_int (fun _ _ => rfl)) (pa_cons (pe_slice sl_tupA (pv 0) (po_some pe_int) po_none) pa_nil))) (pg_tup rfl (pgs_cons (pg_name (i := 1) sc_Lbad_parts.nd rfl (Or.inr rfl)) (pgs_cons (pg_name (i := 2) sc_Lbad_parts.nd rfl (Or.inr rfl)) pgs_nil)))) (pss_cons (ps_set (i := 3) sc_Lbad_parts.nd rfl (Or.inl rfl) (pe_ix ix_list (pe_lc (T := .one) (NT := (["_law_letter"] : List Str)) (NF := (["_law_parts_here"] : List Str)) (js := [1]) (BlkC.ok (N0 := (["_law_house_here", "_law_parts_here", "_law_rest", "_law_strange", "_law_one", "_law_some"] : List Str)) (osc := defScope s_Lbad_parts) (by decide +kernel) rfl rfl) (⟨_, ⟨_, rfl⟩, rfl⟩) rfl (pi_str pe_str) (fun b => ⟨(pts_one (pt_cmpR (op_notin_strs hr.units1) (pe_op op_mul_str (pv 0) pe_int) (pe_lc (T := .one) (NT := (["_law_row"] : List Str)) (NF := ([] : List Str)) (js := []) (BlkC.ok (N0 := (["_law_letter", "_law_parts_here"] : List Str)) (osc := relabelS _ (defScope s_Lbad_parts)) (by decide +kernel) rfl rfl) (⟨_, ⟨_, rfl⟩, rfl⟩) rfl (pi_tup (pv 1)) (fun b => ⟨pts_nil, (pe_ix ix_tup (pv 0) pe_int (fun _ _ => rfl))⟩)) (by with_unfolding_all rfl))), (pe_op op_mul_str (pv 0) pe_int)⟩)) pe_int (fun _ _ => rfl))) (pss_cons (ps_set (i := 4) sc_Lbad_parts.nd rfl (Or.inl rfl) (pe_ix ix_tup (pe_ix ix_tup (pv 1) pe_int (fun _ _ => rfl)) pe_int (fun _ _ => rfl))) (pss_cons (ps_set (i := 5) sc_Lbad_parts.nd rfl (Or.inl rfl) (pe_lst (pa_cons (pe_op op_catT (pv 1) (pe_slice sl_tupA (pv 1) (po_some (pe_un un_neg pe_int)) po_none)) (pa_cons (pe_callTy call_tuple_of rfl T.b_tuple (by decide +kernel) (pa_cons (pe_lc (T := .one) (NT := (["_law_letter"] : List Str)) (NF := ([] : List Str)) (js := []) (BlkC.ok (N0 := (["_law_house_here", "_law_parts_here", "_law_rest", "_law_strange", "_law_one", "_law_some"] : List Str)) (osc := defScope s_Lbad_parts) (by decide +kernel) rfl rfl) (⟨_, ⟨_, rfl⟩, rfl⟩) rfl (pi_str pe_str) (fun b => ⟨pts_nil, (pe_tup (pa_cons (pv 0) (pa_cons pe_str pa_nil)))⟩)) pa_nil)) (pa_cons (pe_tup (pa_cons (pe_tup (pa_cons (pv 4) (pa_cons (pv 4) pa_nil))) pa_nil)) (pa_cons (pe_tup (pa_cons (pe_tup (pa_cons (pv 4) (pa_cons (pv 3) pa_nil))) pa_nil)) pa_nil)))))) (pss_cons (ps_set (i := 5) sc_Lbad_parts.nd rfl (Or.inl rfl) (pe_op op_cat (pv 5) (pe_lst (pa_cons (pe_tup (pa_cons (pe_tup (pa_cons (pv 4) (pa_cons pe_str pa_nil))) (pa_cons (pe_tup (pa_cons (pv 4) (pa_cons pe_str pa_nil))) pa_nil))) (pa_cons (pe_tup (pa_cons (pe_tup (pa_cons pe_str (pa_cons pe_str pa_nil))) (pa_cons (pe_tup (pa_cons pe_str (pa_cons pe_str pa_nil))) pa_nil))) (pa_cons (pe_tup (pa_cons (pe_tup (pa_cons pe_str (pa_cons pe_str pa_nil))) (pa_cons (pe_tup (pa_cons pe_str (pa_cons pe_str pa_nil))) pa_nil))) (pa_cons (pe_tup (pa_cons (pe_tup (pa_cons pe_str (pa_cons pe_str pa_nil))) pa_nil)) (pa_cons (pe_tup (pa_cons (pe_tup (pa_cons (pv 4) pa_nil)) pa_nil)) pa_nil)))))))) (pss_cons (ps_set (i := 5) sc_Lbad_parts.nd rfl (Or.inl rfl) (pe_op op_cat (pv 5) (pe_lst (pa_cons (pe_tup (pa_cons (pe_tup (pa_cons (pv 4) (pa_cons pe_str (pa_cons pe_str pa_nil)))) pa_nil)) (pa_cons (pe_tup (pa_cons (pe_lst (pa_cons (pv 4) (pa_cons pe_str pa_nil))) pa_nil)) (pa_cons (pe_lst (pa_cons (pe_tup (pa_cons (pv 4) (pa_cons pe_str pa_nil))) pa_nil)) (pa_cons (pe_tup (pa_cons (pe_tup (pa_cons (pv 4) (pa_cons pe_non pa_nil))) pa_nil)) (pa_cons (pe_tup (pa_cons (pe_tup (pa_cons (pv 4) (pa_cons pe_int pa_nil))) pa_nil)) (pa_cons (pe_tup (pa_cons (pe_tup (pa_cons pe_str (pa_cons pe_str pa_nil))) pa_nil)) (pa_cons pe_non (pa_cons pe_int pa_nil))))))))))) (pss_one (ps_ret (pe_lc (T := .one) (NT := (["_law_thing"] : List Str)) (NF := (["_law_rest"] : List Str)) (js := [2]) (BlkC.ok (N0 := (["_law_house_here", "_law_parts_here", "_law_rest", "_law_strange", "_law_one", "_law_some"] : List Str)) (osc := defScope s_Lbad_parts) (by decide +kernel) rfl rfl) (⟨_, ⟨_, rfl⟩, rfl⟩) rfl (pi_list (pe_op op_cat (pv 5) (pe_lst (pa_cons (pe_tup (pa_cons (pe_tup (pa_cons pe_str (pa_cons pe_str pa_nil))) (pa_cons (pe_tup (pa_cons pe_str (pa_cons pe_str pa_nil))) (pa_cons (pe_tup (pa_cons pe_str (pa_cons pe_str pa_nil))) pa_nil)))) pa_nil)))) (fun b => ⟨pts_nil, (pe_op op_catT (pe_tup (pa_cons (pv 0) pa_nil)) (pv 1))⟩)))))))))), ?_⟩
    refine EndsD.use (Γ := [some (.tuple [_, B, C, E]), none, none, none, none, none]) (edCast (ed_two (gdTup (gs_cons (gdIxT 0 (gd_var rfl) rfl) (gs_cons (gd_sl (gd_var rfl) (go_some gd_int) go_none) gs_nil)) rfl) (ed_set (gd_strange pd (fun b d => gd_var rfl)) (ed_set (gdIxT 0 (gdIxT 0 (gd_var rfl) rfl) rfl) (ed_set (gdLst (gs_cons (gd_catT (gd_var rfl) (gd_sl (gd_var rfl) (go_some (gd_neg gd_int)) go_none) (by simp) hle) (gs_cons (gd_tuple (gs_cons (gdLcS (g := fun d => .tuple [d, .str (Str.ofString "")]) gd_str (fun b d => (gdTup (gs_cons (gd_var rfl) (gs_cons gd_str gs_nil)) rfl)) rfl) gs_nil)) (gs_cons (gdTup (gs_cons (gdTup (gs_cons (gd_var rfl) (gs_cons (gd_var rfl) gs_nil)) rfl) gs_nil) rfl) (gs_cons (gdTup (gs_cons (gdTup (gs_cons (gd_var rfl) (gs_cons (gd_var rfl) gs_nil)) rfl) gs_nil) rfl) gs_nil)))) rfl) (ed_set (gdCatL (gd_var rfl) (gdLst (gs_cons (gdTup (gs_cons (gdTup (gs_cons (gd_var rfl) (gs_cons gd_str gs_nil)) rfl) (gs_cons (gdTup (gs_cons (gd_var rfl) (gs_cons gd_str gs_nil)) rfl) gs_nil)) rfl) (gs_cons (gdTup (gs_cons (gdTup (gs_cons gd_str (gs_cons gd_str gs_nil)) rfl) (gs_cons (gdTup (gs_cons gd_str (gs_cons gd_str gs_nil)) rfl) gs_nil)) rfl) (gs_cons (gdTup (gs_cons (gdTup (gs_cons gd_str (gs_cons gd_str gs_nil)) rfl) (gs_cons (gdTup (gs_cons gd_str (gs_cons gd_str gs_nil)) rfl) gs_nil)) rfl) (gs_cons (gdTup (gs_cons (gdTup (gs_cons gd_str (gs_cons gd_str gs_nil)) rfl) gs_nil) rfl) (gs_cons (gdTup (gs_cons (gdTup (gs_cons (gd_var rfl) gs_nil) rfl) gs_nil) rfl) gs_nil))))) rfl) rfl) (ed_set (gdCatL (gd_var rfl) (gdLst (gs_cons (gdTup (gs_cons (gdTup (gs_cons (gd_var rfl) (gs_cons gd_str (gs_cons gd_str gs_nil))) rfl) gs_nil) rfl) (gs_cons (gdTup (gs_cons (gdLst (gs_cons (gd_var rfl) (gs_cons gd_str gs_nil)) rfl) gs_nil) rfl) (gs_cons (gdLst (gs_cons (gdTup (gs_cons (gd_var rfl) (gs_cons gd_str gs_nil)) rfl) gs_nil) rfl) (gs_cons (gdTup (gs_cons (gdTup (gs_cons (gd_var rfl) (gs_cons gd_non gs_nil)) rfl) gs_nil) rfl) (gs_cons (gdTup (gs_cons (gdTup (gs_cons (gd_var rfl) (gs_cons gd_int gs_nil)) rfl) gs_nil) rfl) (gs_cons (gdTup (gs_cons (gdTup (gs_cons gd_str (gs_cons gd_str gs_nil)) rfl) gs_nil) rfl) (gs_cons gd_non (gs_cons gd_int gs_nil)))))))) rfl) rfl) (ed_ret (gdLcL (g := fun d => .tuple ([d] ++ cutD [PyData.tuple (.tuple [.str p, w] :: as), B, C, E] (some 1) none)) (gdCatL (gd_var rfl) (gdLst (gs_cons (gdTup (gs_cons (gdTup (gs_cons gd_str (gs_cons gd_str gs_nil)) rfl) (gs_cons (gdTup (gs_cons gd_str (gs_cons gd_str gs_nil)) rfl) (gs_cons (gdTup (gs_cons gd_str (gs_cons gd_str gs_nil)) rfl) gs_nil))) rfl) gs_nil) rfl) rfl) (fun b d => (gdCatT (gdTup (gs_cons (gd_var rfl) gs_nil) rfl) (gd_var rfl) rfl rfl)) rfl)))))))) (by rfl)) ⟨rfl, fun i d e => ?_⟩ (fun v' H' s' r => q v' H' s' r)
    match i, e with
    | 0, e => cases e; exact ⟨v, rfl, hv⟩
    | 1, e => cases e
    | 2, e => cases e
    | 3, e => cases e
    | 4, e => cases e
    | 5, e => cases e
end
end K02

set_option maxHeartbeats 4000000
namespace K02
open PySem L2
theorem ranks_false {zs : List Str} {p s : Str} (hp : inStrs zs (.str p) = true) (hs : inStrs zs (.str s) = false) (he : inStrs zs (.str (Str.ofString "")) = false) : (ranksThings p s).all (fun d => !ranksD zs d) = true := by
  simp only [ranksThings, List.all_cons, List.all_nil, ranksD, tItems, rankRowD, hp, hs, he]
  rfl
theorem leaves_false {zs : List Str} {p s : Str} (hp : inStrs zs (.str p) = true) (hs : inStrs zs (.str s) = false) (he : inStrs zs (.str (Str.ofString "")) = false) : (leavesThings p s).all (fun d => !leavesD zs d) = true := by
  simp only [leavesThings, List.all_cons, List.all_nil, leavesD, tItems, leaveRowD, hp, hs, he]
  rfl
end K02

set_option maxHeartbeats 4000000
namespace K02
open PySem L2
theorem ks_same (p : Str) (a b : List Key) : ksLt (.inr p :: a) (.inr p :: b) = ksLt a b := by
  show (if (Sum.inr p : Key) = Sum.inr p then ksLt a b else _) = _
  rw [if_pos rfl]
theorem rules_false {zs : List Str} {p s : Str} (hp : inStrs zs (.str p) = true) (hs : inStrs zs (.str s) = false) (he : inStrs zs (.str (Str.ofString "")) = false) (hpe : eqStr (Str.ofString "") (.str p) = false) (hse : eqStr (Str.ofString "") (.str s) = false) :
    (rulesThings p s).all (fun d => !rulesD zs d) = true := by
  have nof : ∀ (zs : List Str) (d : PyData), (∀ z, eqStr z d = false) → inStrs zs d = false := fun zs d h => by
    unfold inStrs
    rw [List.any_eq_false]
    exact fun z _ => by simp [h z]
  have hin : inStrs zs (.int 2) = false := nof _ _ fun _ => rfl
  have hno : inStrs zs .none = false := nof _ _ fun _ => rfl
  simp only [rulesThings, List.all_cons, List.all_nil, rulesD, tItems, ruleRowD, seatRowD, hp, hs, he, hpe, hse, hin, hno, List.map_cons, List.map_nil, ruleKey, adj, ks_same]
  rfl
end K02

set_option maxHeartbeats 4000000
namespace K02
open PySem L2
theorem adj_twice {α : Type} {f : α → α → Bool} {k : α} (hk : f k k = false) : ∀ l : List α, adj f (l ++ [k, k]) = false
  | [] => by simp [adj, hk]
  | [a] => by simp [adj, hk]
  | a :: b :: r => by
    show (f a b && adj f ((b :: r) ++ [k, k])) = false
    rw [adj_twice hk (b :: r), Bool.and_false]
theorem cut_last (r : List PyData) (x : PyData) : cutD (r ++ [x]) (some (-1)) none = [x] := by
  unfold cutD
  have e1 : HT.sIx (r ++ [x]).length 0 (some (-1)) = r.length := by
    show (if (-1 : Int) < 0 then ((-1 : Int) + ((r ++ [x]).length : Int)).toNat else min (-1 : Int).toNat (r ++ [x]).length) = _
    rw [if_pos (by decide), List.length_append, List.length_singleton]
    omega
  have e2 : HT.sIx (r ++ [x]).length (r ++ [x]).length none = (r ++ [x]).length := rfl
  rw [e1, e2]
  simp
theorem k_irr (p : Str) : kLt (.inr p) (.inr p) = false := by
  show decide (p.cps.toList < p.cps.toList) = false
  exact decide_eq_false (lex_irr _)
theorem parts_false {as : List PyData} {p s : Str} (ne : as ≠ []) (hps : inStrs [p] (.str s) = false) (hpn : nameB p = true) (hpe : eqStr (Str.ofString "") (.str p) = false) (hse : eqStr (Str.ofString "") (.str s) = false) :
    (partsThings as p s).all (fun d => !partsD d) = true := by
  have hp0 : ¬ p = Str.ofString "" := by simpa [eqStr] using hpe
  have a1 : partsD (.tuple (as ++ cutD as (some (-1)) none)) = false := by
    rcases List.eq_nil_or_concat as with rfl | ⟨r, x, rfl⟩
    · exact absurd rfl ne
    · rw [List.concat_eq_append, cut_last]
      have e : adj kLt ((namesD (.tuple (r ++ [x] ++ [x]))).map fun z => (.inr z : Key)) = false := by
        have := adj_twice (k_irr (strOf (firstD x))) ((r.map fun x => strOf (firstD x)).map fun z => (.inr z : Key))
        simpa [namesD, tItems] using this
      unfold partsD
      rw [e]
      simp
  have a3 : partsD (.tuple [.tuple [.str p, .str p]]) = false := by
    unfold partsD
    simp [namesD, pairsD, tItems, firstD, secondD, strOf, lookP, endB, hp0]
  have a4 : partsD (.tuple [.tuple [.str p, .str s]]) = false := by
    have e : withinB [p] (.tuple [.str p, .str s]) = false := by
      show (eqStr (Str.ofString "") (.str s) || inStrs [p] (.str s)) = false
      rw [hps, hse]
      rfl
    have en : namesD (.tuple [.tuple [.str p, .str s]]) = [p] := rfl
    unfold partsD
    rw [en]
    simp only [tItems, List.all_cons, e]
    simp
  have a5 : partsD (.tuple [.tuple [.str p, .str (Str.ofString "")], .tuple [.str p, .str (Str.ofString "")]]) = false := by
    have e : adj kLt ((namesD (.tuple [.tuple [.str p, .str (Str.ofString "")], .tuple [.str p, .str (Str.ofString "")]])).map fun z => (.inr z : Key)) = false := adj_twice (k_irr p) []
    unfold partsD
    rw [e]
    simp
  have a13 : partsD (.tuple [.tuple [.str p, .none]]) = false := by
    have e : (tItems (.tuple [.tuple [.str p, .none]])).all (withinB (namesD (.tuple [.tuple [.str p, .none]]))) = false := rfl
    unfold partsD
    rw [e]
    simp
  have a14 : partsD (.tuple [.tuple [.str p, .int 0]]) = false := by
    have e : (tItems (.tuple [.tuple [.str p, .int 0]])).all (withinB (namesD (.tuple [.tuple [.str p, .int 0]]))) = false := rfl
    unfold partsD
    rw [e]
    simp
  have a8 : partsD (.tuple [.tuple [.str (Str.ofString "A"), .str (Str.ofString "")]]) = false := by decide +kernel
  have a15 : partsD (.tuple [.tuple [.str (Str.ofString ""), .str (Str.ofString "")]]) = false := by decide +kernel
  have a6 : partsD (.tuple [.tuple [.str (Str.ofString "b"), .str (Str.ofString "")], .tuple [.str (Str.ofString "a"), .str (Str.ofString "")]]) = false := by decide +kernel
  have a7 : partsD (.tuple [.tuple [.str (Str.ofString "a"), .str (Str.ofString "b")], .tuple [.str (Str.ofString "b"), .str (Str.ofString "a")]]) = false := by decide +kernel
  have a18 : partsD (.tuple [.tuple [.str (Str.ofString "a"), .str (Str.ofString "c")], .tuple [.str (Str.ofString "b"), .str (Str.ofString "a")], .tuple [.str (Str.ofString "c"), .str (Str.ofString "b")]]) = false := by decide +kernel
  simp only [partsThings, List.all_cons, List.all_nil, a1, a3, a4, a5, a6, a7, a8, a13, a14, a15, a18]
  rfl
end K02

set_option maxHeartbeats 4000000
namespace K02
open PySem L2
structure SaysP (vs : List V) (H : Hp) (Q : VK) : Prop where
  ex : ∃ v due d, vs = [v, .bl due] ∧ RX H d v ∧ okD d = true ∧ Shw 60 sizeLine d ∧ ∀ H', Same H H' → Q (.bl (decide (isHouseD d = due))) H'
def sp_says : Sp := fun vs H Q _ => SaysP vs H Q
section
variable {P : Program} {w : World} {K : PySem.W.Frag} {mg : Str → Option Value} {base : Heap} {k_HIGHEST_RANK k_LOWEST_RANK k_MOST_LEAVES k_MOST_LETTERS k_MOST_PARTS k_MOST_RANKS k_MOST_RULES k_MOST_SEATS : Tok}
theorem ok_Lsays {f : Addr} {fd : FuncData} (F : Fun K "_law_says" "_law_says" s_Lsays f fd) (T : Txt K mg k_HIGHEST_RANK k_LOWEST_RANK k_MOST_LEAVES k_MOST_LETTERS k_MOST_PARTS k_MOST_RANKS k_MOST_RULES k_MOST_SEATS) (h_is_house : Has P w K mg base "is_house" 6 ["thing"] (sp1 isHouseD)) : FnOk P w K mg base CX0 7 f fd ["_law_thing", "_law_due"] sp_says := by
  refine F.ok sc_Lsays (fun vs H Q E h => ?_) (fun cdv A outer s H vs Q E hr h => ?_)
  · obtain ⟨v, due, d, rfl, _⟩ := SaysP.ex h
    rfl
  · obtain ⟨v, due, d, rfl, hd, ok, sh, q⟩ := SaysP.ex h
    clear h
    refine ⟨_, (pss_cons (ps_par (i := 2) (j := 3) rfl sc_Lsays.nd rfl rfl (by decide) rfl rfl (pa_cons (pe_callB (call_repr hr.gd hr.units) rfl T.b_repr (by decide +kernel) (pa_cons (pv 0) pa_nil)) (pa_cons (pe_fn h_is_house (hr.mono (by decide)) rfl (pa_cons (pv 0) pa_nil)) pa_nil)) rfl) (pss_one (ps_ret (pe_and (pe_callB call_isinst rfl T.b_isinstance (by decide +kernel) (pa_cons (pv 3) (pa_cons (pe_bltn (v := .ty "bool") rfl T.b_bool (by decide +kernel) rfl) pa_nil))) (pe_and (pe_cmpR op_eq (pv 3) (pv 1) (nomark _)) (pe_one (pe_cmpR op_eq (pe_callB (call_repr hr.gd hr.units) rfl T.b_repr (by decide +kernel) (pa_cons (pv 0) pa_nil)) (pv 2) (nomark _)))))))), ?_⟩
    refine ⟨_, rfl, v, d, rfl, hd.rd, sh.able, sh.deep, sh.len, ?_⟩
    refine ⟨_, rfl, ⟨v, d, rfl, hd, ok, fun H1 s1 => ?_⟩⟩
    refine ⟨_, _, rfl, ?_⟩
    have rb : RX H1 (.bool (isHouseD d)) (.bl (isHouseD d)) := rfl
    refine ⟨_, rfl, .bl (isHouseD d), _, _, _, rfl, rb.ty, kit_bool rb, ?_⟩
    refine ⟨true, rfl, iteT ?_⟩
    refine ⟨_, rfl, _, rfl, rfl, _, rfl, ?_⟩
    have e : decide (V.bl (isHouseD d) = V.bl due) = decide (isHouseD d = due) := by
      by_cases h : isHouseD d = due
      · simp [h]
      · simp [h]
    rw [e]
    have q1 := q H1 s1
    refine iteB (fun h => ?_) (fun h => ?_)
    · refine ⟨_, rfl, v, d, rfl, (hd.same s1).rd, sh.able, sh.deep, sh.len, _, rfl, rfl, ?_⟩
      rw [show decide (V.str d.shown = V.str d.shown) = true from decide_eq_true rfl]
      rw [h] at q1
      exact q1
    · rw [h] at q1
      exact q1
end
end K02

set_option maxHeartbeats 4000000
namespace K02
open PySem L2
/-! ### all that is asked about can be shown -/
theorem shw_lst {e B C : Nat} {ds : List PyData} (h : ∀ d ∈ ds, Shw e B d) (hc : ds.length ≤ C) : Shw (e + 1) (C * (B + 2) + 3) (.list ds) := by
  obtain ⟨h1, h2, h3⟩ := showAll h
  refine ⟨by simpa [PyData.showable] using h1, by simp [PyData.depth]; omega, ?_⟩
  simp only [PyData.shown]
  have := listText_len_le (PyData.shownAll ds)
  have hl : (PyData.shownAll ds).length = ds.length := PyData.shownAll_length ds
  rw [hl] at this
  have hm : ds.length * B ≤ C * B := Nat.mul_le_mul_right B hc
  rw [Nat.mul_add]
  omega
def smB (z : Str) : Bool := decide (z.length ≤ 8) && z.cps.toList.all fun c => decide (c < 128)
theorem sm_of {z : Str} (h : smB z = true) : Sm 8 z := by
  simp only [smB, Bool.and_eq_true, decide_eq_true_eq, List.all_eq_true] at h
  exact ⟨fun c hc => h.2 c (by simpa using hc), h.1⟩
theorem sm_name {z : Str} (h : nameB z = true) : smB z = true := by
  have := Sm.name h
  simp only [smB, Bool.and_eq_true, decide_eq_true_eq, List.all_eq_true]
  exact ⟨this.2, fun c hc => this.1 c (by simpa using hc)⟩
def fitB (c : Nat) : Nat → PyData → Bool
  | _, .int i => decide (i < 1000000) && (decide (0 ≤ i) || decide (i = -1) || decide (i = -2) || decide (i = -3))
  | _, .str z => smB z
  | _, .none => true
  | _, .bool _ => true
  | n + 1, .tuple ds => decide (ds.length ≤ c) && ds.all (fitB c n)
  | n + 1, .list ds => decide (ds.length ≤ c) && ds.all (fitB c n)
  | _, _ => false
def Bd (c : Nat) : Nat → Nat
  | 0 => 82
  | n + 1 => (c + 1) * (Bd c n + 2) + 3
theorem Bd_ge (c : Nat) : ∀ n, 82 ≤ Bd c n
  | 0 => Nat.le_refl _
  | n + 1 => by
    have h := Bd_ge c n
    have : 1 * (Bd c n + 2) ≤ (c + 1) * (Bd c n + 2) := Nat.mul_le_mul_right _ (by omega)
    show 82 ≤ (c + 1) * (Bd c n + 2) + 3
    omega
theorem shw_low (n c : Nat) {d : PyData} (h : Shw 0 82 d) : Shw n (Bd c n) d := h.mono (Nat.zero_le _) (Bd_ge c n)
theorem fit_shw (c : Nat) : ∀ (n : Nat) (d : PyData), fitB c n d = true → Shw n (Bd c n) d
  | n, .int i, h => by
    have h' : i < 1000000 ∧ (((0 ≤ i ∨ i = -1) ∨ i = -2) ∨ i = -3) := by
      unfold fitB at h
      simpa using h
    refine shw_low n c ?_
    rcases h'.2 with ((g | rfl) | rfl) | rfl
    · exact (shw_int g (by omega)).mono (Nat.le_refl _) (by decide)
    · exact ⟨by decide +kernel, by decide +kernel, by rw [PyData.shown_int]; decide +kernel⟩
    · exact ⟨by decide +kernel, by decide +kernel, by rw [PyData.shown_int]; decide +kernel⟩
    · exact ⟨by decide +kernel, by decide +kernel, by rw [PyData.shown_int]; decide +kernel⟩
  | n, .str z, h => shw_low n c (shw_str (sm_of (by unfold fitB at h; exact h)))
  | n, .none, _ => shw_low n c ⟨by decide +kernel, by decide +kernel, by decide +kernel⟩
  | n, .bool b, _ => shw_low n c (by cases b <;> exact ⟨by decide +kernel, by decide +kernel, by decide +kernel⟩)
  | 0, .tuple ds, h => by simp [fitB] at h
  | 0, .list ds, h => by simp [fitB] at h
  | n, .dict _, h => by cases n <;> simp [fitB] at h
  | n + 1, .tuple ds, h => by
    simp only [fitB, Bool.and_eq_true, decide_eq_true_eq, List.all_eq_true] at h
    exact shw_tup (fun d hd => fit_shw c n d (h.2 d hd)) (by omega)
  | n + 1, .list ds, h => by
    simp only [fitB, Bool.and_eq_true, decide_eq_true_eq, List.all_eq_true] at h
    exact shw_lst (fun d hd => fit_shw c n d (h.2 d hd)) (by omega)
theorem okDs_all : ∀ {ds : List PyData}, (∀ d, d ∈ ds → okD d = true) → okDs ds = true
  | [], _ => by simp [okDs]
  | d :: ds, h => by simp [okDs, h d (List.mem_cons_self ..), okDs_all fun x hx => h x (List.mem_cons_of_mem _ hx)]
theorem fit_ok {c : Nat} (hc : c ≤ 1000) : ∀ (n : Nat) (d : PyData), fitB c n d = true → okD d = true
  | n, .int i, _ => by simp [okD]
  | n, .str z, h => by
    have := (sm_of (z := z) (by unfold fitB at h; exact h)).2
    simp only [okD, decide_eq_true_eq]
    omega
  | n, .none, _ => by simp [okD]
  | n, .bool b, _ => by simp [okD]
  | 0, .tuple ds, h => by simp [fitB] at h
  | 0, .list ds, h => by simp [fitB] at h
  | n, .dict _, h => by cases n <;> simp [fitB] at h
  | n + 1, .tuple ds, h => by
    simp only [fitB, Bool.and_eq_true, decide_eq_true_eq, List.all_eq_true] at h
    simp only [okD, Bool.and_eq_true, decide_eq_true_eq]
    exact ⟨by omega, okDs_all fun d hd => fit_ok hc n d (h.2 d hd)⟩
  | n + 1, .list ds, h => by
    simp only [fitB, Bool.and_eq_true, decide_eq_true_eq, List.all_eq_true] at h
    simp only [okD, Bool.and_eq_true, decide_eq_true_eq]
    exact ⟨by omega, okDs_all fun d hd => fit_ok hc n d (h.2 d hd)⟩
theorem ranks_fit {p s : Str} (hp : smB p = true) (hs : smB s = true) : (ranksThings p s).all (fitB 21 2) = true := by
  simp only [ranksThings, List.all_cons, List.all_nil, fitB, hp, hs]
  rfl
theorem leaves_fit {p s : Str} (hp : smB p = true) (hs : smB s = true) : (leavesThings p s).all (fitB 17 2) = true := by
  simp only [leavesThings, List.all_cons, List.all_nil, fitB, hp, hs]
  rfl
theorem rules_fit {p s : Str} (hp : smB p = true) (hs : smB s = true) : (rulesThings p s).all (fitB 11 4) = true := by
  simp only [rulesThings, List.all_cons, List.all_nil, fitB, hp, hs]
  rfl
end K02

set_option maxHeartbeats 4000000
namespace K02
open PySem L2
structure Bth (e B : Nat) (d : PyData) : Prop where
  s : Shw e B d
  o : okD d = true
theorem Bth.mono {e e' B B' : Nat} {d : PyData} (h : Bth e B d) (he : e ≤ e') (hB : B ≤ B') : Bth e' B' d := ⟨h.s.mono he hB, h.o⟩
theorem bth_int {i : Int} (h0 : 0 ≤ i) (h1 : i < 10 ^ 12) : Bth 0 12 (.int i) := ⟨shw_int h0 h1, by simp [okD]⟩
theorem bth_str {z : Str} (h : Sm 8 z) : Bth 0 82 (.str z) := ⟨shw_str h, by have := h.2; simp only [okD, decide_eq_true_eq]; omega⟩
theorem ok_tup {ds : List PyData} (h : ∀ d, d ∈ ds → okD d = true) (hl : ds.length ≤ 1000) : okD (.tuple ds) = true := by
  simp only [okD, Bool.and_eq_true, decide_eq_true_eq]
  exact ⟨by omega, okDs_all h⟩
theorem ok_lst {ds : List PyData} (h : ∀ d, d ∈ ds → okD d = true) (hl : ds.length ≤ 1000) : okD (.list ds) = true := by
  simp only [okD, Bool.and_eq_true, decide_eq_true_eq]
  exact ⟨by omega, okDs_all h⟩
theorem bth_tup {e B C : Nat} {ds : List PyData} (h : ∀ d ∈ ds, Bth e B d) (hc : ds.length ≤ C) (hC : C ≤ 1000 := by decide) : Bth (e + 1) (C * (B + 2) + 3) (.tuple ds) :=
  ⟨shw_tup (fun d hd => (h d hd).s) hc, ok_tup (fun d hd => (h d hd).o) (by omega)⟩
theorem bth_lst {e B C : Nat} {ds : List PyData} (h : ∀ d ∈ ds, Bth e B d) (hc : ds.length ≤ C) (hC : C ≤ 1000 := by decide) : Bth (e + 1) (C * (B + 2) + 3) (.list ds) :=
  ⟨shw_lst (fun d hd => (h d hd).s) hc, ok_lst (fun d hd => (h d hd).o) (by omega)⟩
theorem fit_bth {c n : Nat} (hc : c ≤ 1000) {d : PyData} (h : fitB c n d = true) : Bth n (Bd c n) d := ⟨fit_shw c n d h, fit_ok hc n d h⟩
theorem house_bth {zs : List Str} {ps : List (Str × Str)} {h : HouseT} (hz : ∀ z ∈ zs, nameB z = true) (hp : PartsOk zs ps) (g : HouseGen zs ps h) : ∀ d, d ∈ [PyData.tuple (h.ps.map partD), .tuple (h.ranks.map rankD), .tuple (h.leaves.map leaveD), .tuple (h.rules.map ruleD)] → Bth 4 32000 d := by
  have sz : ∀ z ∈ zs, Sm 8 z := fun z hm => Sm.name (hz z hm)
  have pz : ∀ x ∈ ps, Sm 8 x.1 ∧ Sm 8 x.2 := fun x hx => by
    obtain ⟨i, hi, rfl⟩ := List.getElem_of_mem hx
    obtain ⟨e1, e2⟩ := hp i ps[i] (List.getElem?_eq_getElem hi)
    refine ⟨sz _ (List.mem_of_getElem? e1), ?_⟩
    rcases e2 with e2 | ⟨j, _, e2⟩
    · rw [e2]
      exact em_sm
    · exact sz _ (List.mem_of_getElem? e2)
  have oz : ∀ z ∈ ps.map (·.1), Sm 8 z := fun z hm => by
    obtain ⟨x, hx, rfl⟩ := List.mem_map.mp hm
    exact (pz x hx).1
  have int' : ∀ {i : Int}, 0 ≤ i → i < 10 ^ 12 → Bth 0 82 (.int i) := fun a b => (bth_int a b).mono (Nat.le_refl _) (by decide)
  have s1 : Bth 2 (8 * (171 + 2) + 3) (.tuple (h.ps.map partD)) := by
    refine bth_tup (e := 1) (B := 171) (fun d hd => ?_) (by rw [List.length_map, g.parts.length_eq]; exact g.p8)
    obtain ⟨x, hx, rfl⟩ := List.mem_map.mp hd
    have := pz x (g.parts.mem_iff.mp hx)
    refine bth_tup (e := 0) (B := 82) (C := 2) (fun d hd => ?_) (Nat.le_refl _)
    simp only [List.mem_cons, List.not_mem_nil, or_false] at hd
    rcases hd with rfl | rfl
    · exact bth_str this.1
    · exact bth_str this.2
  have s2 : Bth 2 (20 * (507 + 2) + 3) (.tuple (h.ranks.map rankD)) := by
    refine bth_tup (e := 1) (B := 507) (fun d hd => ?_) (by rw [List.length_map]; exact g.r20)
    obtain ⟨x, hx, rfl⟩ := List.mem_map.mp hd
    have k := g.ranks x hx
    refine bth_tup (e := 0) (B := 82) (C := 6) (fun d hd => ?_) (Nat.le_refl _)
    have k1 := k.num
    have k3 := k.rank
    have k5 := k.days
    simp only [List.mem_cons, List.not_mem_nil, or_false] at hd
    rcases hd with rfl | rfl | rfl | rfl | rfl | rfl
    · exact int' (by omega) (by omega)
    · exact bth_str (sz _ k.who)
    · exact int' (by omega) (by omega)
    · exact bth_str (oz _ k.part)
    · exact int' (by omega) (by omega)
    · exact int' (by omega) (by omega)
  have s3 : Bth 2 (16 * (591 + 2) + 3) (.tuple (h.leaves.map leaveD)) := by
    refine bth_tup (e := 1) (B := 591) (fun d hd => ?_) (by rw [List.length_map]; exact g.l16)
    obtain ⟨x, hx, rfl⟩ := List.mem_map.mp hd
    have k := g.leaves x hx
    refine bth_tup (e := 0) (B := 82) (C := 7) (fun d hd => ?_) (Nat.le_refl _)
    have k1 := k.num
    have k3 := k.most
    have k5 := k.days
    simp only [List.mem_cons, List.not_mem_nil, or_false] at hd
    rcases hd with rfl | rfl | rfl | rfl | rfl | rfl | rfl
    · exact int' (by omega) (by omega)
    · exact bth_str (sz _ k.giver)
    · exact bth_str (sz _ k.taker)
    · exact bth_str (oz _ k.part)
    · exact int' (by omega) (by omega)
    · exact int' (by omega) (by omega)
    · exact int' (by omega) (by omega)
  have s4 : Bth 4 (10 * (3132 + 2) + 3) (.tuple (h.rules.map ruleD)) := by
    refine bth_tup (e := 3) (B := 3132) (fun d hd => ?_) (by rw [List.length_map]; exact g.u10)
    obtain ⟨x, hx, rfl⟩ := List.mem_map.mp hd
    have k := g.rules x hx
    have k2 := k.sum
    have st : Bth 2 (6 * (171 + 2) + 3) (seatsD x.2.2) := by
      refine bth_tup (e := 1) (B := 171) (fun d hd => ?_) (by rw [List.length_map]; exact k.many)
      obtain ⟨y, hy, rfl⟩ := List.mem_map.mp hd
      obtain ⟨y1, y2, y3⟩ := k.seats y hy
      refine bth_tup (e := 0) (B := 82) (C := 2) (fun d hd => ?_) (Nat.le_refl _)
      simp only [List.mem_cons, List.not_mem_nil, or_false] at hd
      rcases hd with rfl | rfl
      · exact int' (by omega) (by omega)
      · rcases y3 with y3 | y3
        · rw [y3]
          exact bth_str em_sm
        · exact bth_str (oz _ y3)
    refine (bth_tup (e := 2) (B := 1041) (C := 3) (ds := [.str x.1, .int x.2.1, seatsD x.2.2]) (fun d hd => ?_) (Nat.le_refl _)).mono (by decide) (by decide)
    simp only [List.mem_cons, List.not_mem_nil, or_false] at hd
    rcases hd with rfl | rfl | rfl
    · exact (bth_str (oz _ k.part)).mono (by decide) (by decide)
    · exact (int' (by omega) (by omega)).mono (by decide) (by decide)
    · exact st.mono (by decide) (by decide)
  intro d hd
  simp only [List.mem_cons, List.not_mem_nil, or_false] at hd
  rcases hd with rfl | rfl | rfl | rfl
  · exact s1.mono (by decide) (by decide)
  · exact s2.mono (by decide) (by decide)
  · exact s3.mono (by decide) (by decide)
  · exact s4.mono (by decide) (by decide)
/-- a house as drawn, and what is bad beside it -/
structure Drawn (hd : HouseT) (A B C E : PyData) (as : List PyData) (p s : Str) (w : PyData) : Prop where
  eH : houseD hd = .tuple [A, B, C, E]
  yes : isHouseD (houseD hd) = true
  pin : PartsIn A as p w
  bth : ∀ d, d ∈ [A, B, C, E] → Bth 4 32000 d
  rows : ∀ d, d ∈ tItems A → Bth 1 171 d
  pn : nameB p = true
  sn : nameB s = true
  strange : (cands (namesD A))[0]? = some (.str s)
  sno : inStrs (namesD A) (.str s) = false
  eno : inStrs (namesD A) (.str (Str.ofString "")) = false
end K02

set_option maxHeartbeats 4000000
namespace K02
open PySem L2
theorem line_big {n : Nat} (h : n ≤ 16000000) : n ≤ sizeLine := by rw [sizeLine_eq]; omega
def NoHouse (d : PyData) : Prop := isHouseD d = false ∧ okD d = true ∧ Shw 60 sizeLine d
theorem Bth.no {e B : Nat} {d : PyData} (h : Bth e B d) (f : isHouseD d = false) (he : e ≤ 60 := by decide) (hB : B ≤ 16000000 := by decide) : NoHouse d := ⟨f, h.o, h.s.mono he (line_big hB)⟩
theorem four {e B : Nat} {a b c d : PyData} (h1 : Bth e B a) (h2 : Bth e B b) (h3 : Bth e B c) (h4 : Bth e B d) : ∀ x, x ∈ [a, b, c, d] → Bth e B x := fun x hx => by
  simp only [List.mem_cons, List.not_mem_nil, or_false] at hx
  rcases hx with rfl | rfl | rfl | rfl <;> assumption
def bads1 (A B C E : PyData) : List PyData := [.list [A, B, C, E], .tuple ([A, B, C, E] ++ [.tuple []]), .tuple (cutD [A, B, C, E] none (some 3)), .tuple [A, B, C, E].reverse, .none, .bool true, .int 0, .str (Str.ofString ""), .tuple [], .list [], .tuple [.tuple [A, B, C, E]]]
section
variable {hd : HouseT} {A B C E : PyData} {as : List PyData} {p s : Str} {w : PyData}
theorem Drawn.hp (D : Drawn hd A B C E as p s w) : inStrs (namesD A) (.str p) = true := by
  rw [D.pin.hA]
  exact in_mem.mpr (List.mem_cons_self ..)
theorem Drawn.A4 (D : Drawn hd A B C E as p s w) : Bth 4 32000 A ∧ Bth 4 32000 B ∧ Bth 4 32000 C ∧ Bth 4 32000 E :=
  ⟨D.bth A (by simp), D.bth B (by simp), D.bth C (by simp), D.bth E (by simp)⟩
theorem ne_eq {z : Str} (h : nameB z = true) : eqStr (Str.ofString "") (.str z) = false := decide_eq_false (name_ne h)
theorem bads1_no (D : Drawn hd A B C E as p s w) : ∀ d, d ∈ bads1 A B C E → NoHouse d := by
  obtain ⟨a, b, c, e⟩ := D.A4
  have et : Bth 4 32000 (.tuple []) := (fit_bth (c := 1) (n := 1) (by decide) (by rfl)).mono (by decide) (by decide)
  have at0 : ∀ d, fitB 1 1 d = true → Bth 4 32000 d := fun d h => (fit_bth (c := 1) (n := 1) (by decide) h).mono (by decide) (by decide)
  have rv : rulesD (namesD E) A = false := by
    rw [D.pin.hA]
    simp [rulesD, tupsN, tupN]
  intro d hd
  simp only [bads1, List.mem_cons, List.not_mem_nil, or_false] at hd
  rcases hd with rfl | rfl | rfl | rfl | rfl | rfl | rfl | rfl | rfl | rfl | rfl
  · exact (bth_lst (C := 4) (four a b c e) (by simp)).no rfl
  · refine (bth_tup (C := 5) (e := 4) (B := 32000) (fun x hx => ?_) (by simp)).no rfl
    simp only [List.cons_append, List.nil_append, List.mem_cons, List.not_mem_nil, or_false] at hx
    rcases hx with rfl | rfl | rfl | rfl | rfl <;> assumption
  · refine (bth_tup (C := 4) (e := 4) (B := 32000) (ds := [A, B, C]) (fun x hx => ?_) (by simp)).no rfl
    simp only [List.mem_cons, List.not_mem_nil, or_false] at hx
    rcases hx with rfl | rfl | rfl <;> assumption
  · refine (bth_tup (C := 4) (four e c b a) (by simp)).no ?_
    show (partsD E && (ranksD (namesD E) C && (leavesD (namesD E) B && rulesD (namesD E) A))) = false
    rw [rv]
    simp
  · exact (at0 _ (by rfl)).no rfl
  · exact (at0 _ (by rfl)).no rfl
  · exact (at0 _ (by rfl)).no rfl
  · exact (at0 _ (by decide +kernel)).no rfl
  · exact (at0 _ (by rfl)).no rfl
  · exact (at0 _ (by rfl)).no rfl
  · refine (bth_tup (C := 1) (e := 5) (B := 4 * (32000 + 2) + 3) (fun x hx => ?_) (by simp)).no rfl
    cases List.mem_singleton.mp hx
    exact bth_tup (C := 4) (four a b c e) (by simp)
theorem ranks_no (D : Drawn hd A B C E as p s w) : ∀ d, d ∈ badRanks A B C E p s → NoHouse d := by
  obtain ⟨a, b, c, e⟩ := D.A4
  intro d hd
  obtain ⟨t, ht, rfl⟩ := List.mem_map.mp hd
  have f : ranksD (namesD A) t = false := by simpa using List.all_eq_true.mp (ranks_false D.hp D.sno D.eno) t ht
  have bt : Bth 4 50000 t := (fit_bth (by decide) (List.all_eq_true.mp (ranks_fit (sm_name D.pn) (sm_name D.sn)) t ht)).mono (by decide) (by decide)
  refine (bth_tup (C := 4) (four (a.mono (by decide) (by decide)) bt (c.mono (by decide) (by decide)) (e.mono (by decide) (by decide))) (by simp)).no ?_
  show (partsD A && (ranksD (namesD A) t && (leavesD (namesD A) C && rulesD (namesD A) E))) = false
  rw [f]
  simp
theorem leaves_no (D : Drawn hd A B C E as p s w) : ∀ d, d ∈ badLeaves A B C E p s → NoHouse d := by
  obtain ⟨a, b, c, e⟩ := D.A4
  intro d hd
  obtain ⟨t, ht, rfl⟩ := List.mem_map.mp hd
  have f : leavesD (namesD A) t = false := by simpa using List.all_eq_true.mp (leaves_false D.hp D.sno D.eno) t ht
  have bt : Bth 4 50000 t := (fit_bth (by decide) (List.all_eq_true.mp (leaves_fit (sm_name D.pn) (sm_name D.sn)) t ht)).mono (by decide) (by decide)
  refine (bth_tup (C := 4) (four (a.mono (by decide) (by decide)) (b.mono (by decide) (by decide)) bt (e.mono (by decide) (by decide))) (by simp)).no ?_
  show (partsD A && (ranksD (namesD A) B && (leavesD (namesD A) t && rulesD (namesD A) E))) = false
  rw [f]
  simp
theorem rules_no (D : Drawn hd A B C E as p s w) : ∀ d, d ∈ badRules A B C E p s → NoHouse d := by
  obtain ⟨a, b, c, e⟩ := D.A4
  intro d hd
  obtain ⟨t, ht, rfl⟩ := List.mem_map.mp hd
  have f : rulesD (namesD A) t = false := by simpa using List.all_eq_true.mp (rules_false D.hp D.sno D.eno (ne_eq D.pn) (ne_eq D.sn)) t ht
  have bt : Bth 4 2000000 t := (fit_bth (by decide) (List.all_eq_true.mp (rules_fit (sm_name D.pn) (sm_name D.sn)) t ht)).mono (by decide) (by decide)
  refine (bth_tup (C := 4) (four (a.mono (by decide) (by decide)) (b.mono (by decide) (by decide)) (c.mono (by decide) (by decide)) bt) (by simp)).no ?_
  show (partsD A && (ranksD (namesD A) B && (leavesD (namesD A) C && rulesD (namesD A) t))) = false
  rw [f]
  simp
theorem parts_fit {xs : List PyData} {p s : Str} (hp : smB p = true) (hs : smB s = true) : ((partsThings xs p s).drop 1).all (fitB 9 2) = true := by
  simp only [partsThings, List.drop, List.all_cons, List.all_nil, fitB, hp, hs]
  rfl
theorem parts_no (D : Drawn hd A B C E as p s w) : ∀ d, d ∈ badParts A (.tuple []) (.tuple []) (.tuple []) p s → NoHouse d := by
  intro d hd
  obtain ⟨t, ht, rfl⟩ := List.mem_map.mp hd
  have et : Bth 4 50000 (.tuple []) := (fit_bth (c := 1) (n := 1) (by decide) (by rfl)).mono (by decide) (by decide)
  have eA : tItems A = .tuple [.str p, w] :: as := by rw [D.pin.hA]; rfl
  have ips : inStrs [p] (.str s) = false := by
    cases h : inStrs [p] (.str s) with
    | false => rfl
    | true =>
      have e1 : s = p := by simpa using in_mem.mp h
      have := D.sno
      rw [e1, D.hp] at this
      cases this
  have f : partsD t = false := by simpa using List.all_eq_true.mp (parts_false (as := tItems A) (by rw [eA]; simp) ips D.pn (ne_eq D.pn) (ne_eq D.sn)) t ht
  have bt : Bth 4 50000 t := by
    have ht' : t ∈ PyData.tuple (tItems A ++ cutD (tItems A) (some (-1)) none) :: (partsThings (tItems A) p s).drop 1 := ht
    rcases List.mem_cons.mp ht' with rfl | h
    · have l8 := names_len D.pin.pd
      simp only [namesD, List.length_map] at l8
      have lc : (cutD (tItems A) (some (-1)) none).length ≤ (tItems A).length := by
        unfold cutD
        rw [List.length_take, List.length_drop]
        omega
      refine (bth_tup (C := 16) (e := 1) (B := 171) (fun x hx => D.rows x ?_) (by rw [List.length_append]; omega)).mono (by decide) (by decide)
      rcases List.mem_append.mp hx with h | h
      · exact h
      · exact List.mem_of_mem_drop (List.mem_of_mem_take h)
    · exact (fit_bth (by decide) (List.all_eq_true.mp (parts_fit (sm_name D.pn) (sm_name D.sn)) t h)).mono (by decide) (by decide)
  refine (bth_tup (C := 4) (four bt et et et) (by simp)).no ?_
  show (partsD t && _) = false
  rw [f]
  rfl
end
end K02

set_option maxHeartbeats 4000000
namespace K02
open PySem L2
theorem drawn_of {zs : List Str} {ps : List (Str × Str)} {hd : HouseT} (nm : Names zs) (ok : PartsOk zs ps) (l1 : 1 ≤ ps.length) (g : HouseGen zs ps hd) : ∃ A B C E as p s w, Drawn hd A B C E as p s w := by
  have yes := house_true nm ok g
  have hz := nm.2
  have sz : ∀ z ∈ zs, Sm 8 z := fun z hm => Sm.name (hz z hm)
  have pz : ∀ x ∈ ps, nameB x.1 = true ∧ Sm 8 x.2 := fun x hx => by
    obtain ⟨i, hi, rfl⟩ := List.getElem_of_mem hx
    obtain ⟨e1, e2⟩ := ok i ps[i] (List.getElem?_eq_getElem hi)
    refine ⟨hz _ (List.mem_of_getElem? e1), ?_⟩
    rcases e2 with e2 | ⟨j, _, e2⟩
    · rw [e2]
      exact em_sm
    · exact sz _ (List.mem_of_getElem? e2)
  have pd : partsD (.tuple (hd.ps.map partD)) = true := by
    have : (partsD (.tuple (hd.ps.map partD)) && (ranksD (namesD (.tuple (hd.ps.map partD))) (.tuple (hd.ranks.map rankD)) && (leavesD (namesD (.tuple (hd.ps.map partD))) (.tuple (hd.leaves.map leaveD)) && rulesD (namesD (.tuple (hd.ps.map partD))) (.tuple (hd.rules.map ruleD))))) = true := yes
    exact (Bool.and_eq_true _ _ ▸ this).1
  obtain ⟨s, hs, sn, sno, _⟩ := cands_some (names_len pd)
  cases hps : hd.ps with
  | nil =>
    have := g.parts.length_eq
    rw [hps] at this
    simp at this
    omega
  | cons x r =>
    have hx : x ∈ hd.ps := by rw [hps]; exact List.mem_cons_self ..
    refine ⟨_, _, _, _, r.map partD, x.1, s, .str x.2, rfl, yes, ⟨by rw [hps]; rfl, pd⟩, house_bth hz ok g, fun d hd' => ?_, (pz x (g.parts.mem_iff.mp hx)).1, sn, hs, sno, ?_⟩
    · obtain ⟨y, hy, rfl⟩ := List.mem_map.mp (show d ∈ hd.ps.map partD from hd')
      have := pz y (g.parts.mem_iff.mp hy)
      refine bth_tup (e := 0) (B := 82) (C := 2) (ds := [.str y.1, .str y.2]) (fun d hd => ?_) (Nat.le_refl _)
      simp only [List.mem_cons, List.not_mem_nil, or_false] at hd
      rcases hd with rfl | rfl
      · exact bth_str (Sm.name this.1)
      · exact bth_str this.2
    · cases h : inStrs (namesD (.tuple (hd.ps.map partD))) (.str (Str.ofString "")) with
      | false => rfl
      | true =>
        have m := in_mem.mp h
        simp only [namesD, tItems, List.map_map] at m
        obtain ⟨y, hy, e⟩ := List.mem_map.mp m
        have n1 := (pz y (g.parts.mem_iff.mp hy)).1
        have e' : y.1 = Str.ofString "" := e
        exact absurd e' (name_ne n1)
end K02

set_option maxHeartbeats 4000000
namespace K02
open PySem L2
def allBad (A B C E : PyData) (p s : Str) : List PyData := bads1 A B C E ++ badParts A (.tuple []) (.tuple []) (.tuple []) p s ++ badRanks A B C E p s ++ badLeaves A B C E p s ++ badRules A B C E p s
theorem allBad_no {hd : HouseT} {A B C E : PyData} {as : List PyData} {p s : Str} {w : PyData} (D : Drawn hd A B C E as p s w) : ∀ d, d ∈ allBad A B C E p s → NoHouse d := by
  intro d hd
  simp only [allBad, List.mem_append] at hd
  rcases hd with (((h | h) | h) | h) | h
  · exact bads1_no D d h
  · exact parts_no D d h
  · exact ranks_no D d h
  · exact leaves_no D d h
  · exact rules_no D d h
section
variable {Γ : Env1} {K : PySem.W.Frag}
theorem gr_bad {f : PyData → PyData → PyData → PyData → Str → Str → List PyData} {ta : TE} {A B C E : PyData} {as : List PyData} {p s : Str} {w : PyData} (h : GivesR ta Γ (.tuple [A, B, C, E])) (pin : PartsIn A as p w) (st : (cands (namesD A))[0]? = some (.str s)) :
    GivesR (tCall (spBad f) [] E0 (tCons ta tNil)) Γ (.list (f A B C E p s)) := by
  intro σ H Q e q
  refine h σ H _ e fun v H1 s1 r1 => ?_
  exact BadP.mk ⟨v, A, B, C, E, as, p, w, s, rfl, r1, pin, st, fun v' H' s' r' => q v' H' (s1.trans s') r'⟩
theorem all_says {tl : TE} {ds : List PyData} {js : List Nat} {σ : St} {H : Hp} {Q : VK} (h : GivesR tl Γ (.list ds)) (no : ∀ d, d ∈ ds → NoHouse d) (hn : ds.length ≤ 10000) (e : EnvOk H Γ σ) (q : ∀ H', Same H H' → Q (.bl true) H') :
    tCB (fun xs H Q => ∃ (p : Addr) (bs : List Bool), xs = [.ref p] ∧ SqL K H p (bs.map V.bl) ∧ Q (.bl (bs.all id)) H) (tCons (tLC K (iList K tl) .one (fun _ => tAll) (fun _ => tCall sp_says [] E0 (tCons (tVar 0) (tCons (tC (.bl false)) tNil))) js) tNil) σ H Q := by
  refine h σ H _ e fun v H1 s1 r1 => ?_
  obtain ⟨a, us, rfl, ha1, x1⟩ := r1
  have l1 := rxs_len x1
  refine ⟨a, rfl, ⟨us, SqL.of ha1⟩, fun D hD b => ?_⟩
  refine blk_map (fx_list a us) (fun _ => .bl true) (by rw [sizeLine_eq]; omega) hD (fun H2 s2 => SqL.of (s2 _ _ ha1)) (fun i H2 hi s2 QY qy => ?_) (fun H2 s2 d2 => ?_)
  · have hi' : i < ds.length := by omega
    have hm : ds.getD i .none ∈ ds := by
      rw [List.getD_eq_getElem?_getD, List.getElem?_eq_getElem hi']
      exact List.getElem_mem hi'
    obtain ⟨f, o, sh⟩ := no _ hm
    refine ⟨_, rfl, SaysP.mk ⟨us.getD i .non, false, ds.getD i .none, rfl, (rxs_at x1 hi').same s2, o, sh, fun H3 s3 => ?_⟩⟩
    rw [f]
    exact qy H3 s3
  · have er : (List.range us.length).map (fun _ => V.bl true) = (List.replicate us.length true).map V.bl := by
      rw [List.map_replicate]
      rw [List.map_const', List.length_range]
    rw [er] at d2
    refine ⟨D, _, rfl, SqL.of d2, ?_⟩
    have ea : (List.replicate us.length true).all id = true := by
      rw [List.all_eq_true]
      intro x hx
      rw [List.mem_replicate] at hx
      exact hx.2
    rw [ea]
    exact q H2 (s1.trans s2)
end
end K02

set_option maxHeartbeats 4000000
namespace K02
open PySem L2
section
variable {Γ : Env1} {K : PySem.W.Frag}
theorem asg_d {t : TE} {d : PyData} {i : Nat} {u : L2.TS} {D : Ends} {σ : St} {H : Hp} (h : GivesR t Γ d) (e : EnvOk H Γ σ) (q : ∀ v H', Same H H' → RX H' d v → u D (σ.set i (some v)) H') : tSeq (tAsg t (gName i)) u D σ H := h σ H _ e q
def tBads1 (K : PySem.W.Frag) : TE := tLst (tCons (tCB (fun xs H Q => ∃ p ys, xs = [V.ref p] ∧ (SqL K H p ys ∨ SqT K H p ys) ∧ ∀ (l : Addr), H l = none → Q (V.ref l) (upd H l (HO.lst ys))) (tCons (tVar 3) tNil))
  (tCons (tOp (rCatT K) (tVar 3) (tTup (tCons (tTup tNil) tNil))) (tCons (tSl (rSlA K) (tVar 3) tNoPart (tPart (tC (V.int 3)))) (tCons (tBack K (tVar 3) (tUn (rU fun i => V.int (-i)) (tC (V.int 1))))
  (tCons (tC V.non) (tCons (tC (V.bl true)) (tCons (tC (V.int 0)) (tCons (tC (V.str (Str.ofString ""))) (tCons (tTup tNil) (tCons (tLst tNil) (tCons (tTup (tCons (tVar 3) tNil)) tNil)))))))))))
theorem gd_bads1 {A B C E : PyData} {o : Option PyData} : GivesD (tBads1 K) [none, none, none, some (.tuple [A, B, C, E]), o] (.list (bads1 A B C E)) := by
  have h3 : GivesD (tVar 3) [none, none, none, some (.tuple [A, B, C, E]), o] (.tuple [A, B, C, E]) := gd_var rfl
  exact gdLst (gs_cons (gd_list (gs_cons h3 gs_nil)) (gs_cons (gdCatT h3 (gdTup (gs_cons (gdTup gs_nil rfl) gs_nil) rfl) rfl rfl) (gs_cons (gd_sl h3 go_none (go_some gd_int)) (gs_cons (gd_back h3 (gd_neg gd_int))
      (gs_cons gd_non (gs_cons gd_bl (gs_cons gd_int (gs_cons gd_str (gs_cons (gdTup gs_nil rfl) (gs_cons (gdLst gs_nil rfl) (gs_cons (gdTup (gs_cons h3 gs_nil) rfl) gs_nil))))))))))) rfl
def tBads2 (K : PySem.W.Frag) : TE := tOp rCat (tOp rCat (tVar 4) (tCall (spBad badParts) [] E0 (tCons (tTup (tCons (tOp (rIxT K) (tVar 3) (tC (V.int 0))) (tCons (tTup tNil) (tCons (tTup tNil) (tCons (tTup tNil) tNil))))) tNil))) (tCall (spBad badRanks) [] E0 (tCons (tVar 3) tNil))
theorem gr_bads2 {hd : HouseT} {A B C E : PyData} {as : List PyData} {p s : Str} {w : PyData} (D : Drawn hd A B C E as p s w) :
    GivesR (tBads2 K) [none, none, none, some (.tuple [A, B, C, E]), some (.list (bads1 A B C E))] (.list (bads1 A B C E ++ badParts A (.tuple []) (.tuple []) (.tuple []) p s ++ badRanks A B C E p s)) := by
  have h3 : GivesD (tVar 3) [none, none, none, some (.tuple [A, B, C, E]), some (.list (bads1 A B C E))] (.tuple [A, B, C, E]) := gd_var rfl
  have h4 : GivesD (tVar 4) [none, none, none, some (.tuple [A, B, C, E]), some (.list (bads1 A B C E))] (.list (bads1 A B C E)) := gd_var rfl
  have hA : GivesD (tOp (rIxT K) (tVar 3) (tC (V.int 0))) [none, none, none, some (.tuple [A, B, C, E]), some (.list (bads1 A B C E))] A := gdIxT 0 h3 rfl
  exact gr_catL (gr_catL h4.r (gr_bad (GivesD.r (gdTup (gs_cons hA (gs_cons (gdTup gs_nil rfl) (gs_cons (gdTup gs_nil rfl) (gs_cons (gdTup gs_nil rfl) gs_nil)))) rfl)) D.pin D.strange) (ble_le rfl)) (gr_bad h3.r D.pin D.strange) (ble_le rfl)
def tBads3 : TE := tOp rCat (tOp rCat (tVar 4) (tCall (spBad badLeaves) [] E0 (tCons (tVar 3) tNil))) (tCall (spBad badRules) [] E0 (tCons (tVar 3) tNil))
theorem gr_bads3 {hd : HouseT} {A B C E : PyData} {as : List PyData} {p s : Str} {w : PyData} (D : Drawn hd A B C E as p s w) :
    GivesR tBads3 [none, none, none, some (.tuple [A, B, C, E]), some (.list (bads1 A B C E ++ badParts A (.tuple []) (.tuple []) (.tuple []) p s ++ badRanks A B C E p s))] (.list (allBad A B C E p s)) := by
  have h3 : GivesD (tVar 3) [none, none, none, some (.tuple [A, B, C, E]), some (.list (bads1 A B C E ++ badParts A (.tuple []) (.tuple []) (.tuple []) p s ++ badRanks A B C E p s))] (.tuple [A, B, C, E]) := gd_var rfl
  have h4 : GivesD (tVar 4) [none, none, none, some (.tuple [A, B, C, E]), some (.list (bads1 A B C E ++ badParts A (.tuple []) (.tuple []) (.tuple []) p s ++ badRanks A B C E p s))] (.list (bads1 A B C E ++ badParts A (.tuple []) (.tuple []) (.tuple []) p s ++ badRanks A B C E p s)) := gd_var rfl
  exact gr_catL (gr_catL h4.r (gr_bad h3.r D.pin D.strange) (ble_le rfl)) (gr_bad h3.r D.pin D.strange) (ble_le rfl)
def rLaw (K : PySem.W.Frag) : L2.TS := tSeq (tAsg (tBads1 K) (gName 4)) (tSeq (tAsg (tBads2 K) (gName 4)) (tIfS (tNot (tB (tCB (fun xs H Q => ∃ (p : Addr) (bs : List Bool), xs = [.ref p] ∧ SqL K H p (bs.map V.bl) ∧ Q (.bl (bs.all id)) H) (tCons (tLC K (iList K tBads3) .one (fun _ => tAll) (fun _ => tCall sp_says [] E0 (tCons (tVar 0) (tCons (tC (.bl false)) tNil))) []) tNil)))) (tRet (tC (.bl false))) tNext))
theorem run_rLaw {hd : HouseT} {A B C E : PyData} {as : List PyData} {p s : Str} {w : PyData} (D : Drawn hd A B C E as p s w) {H : Hp} {th : Addr} (rx : RX H (.tuple [A, B, C, E]) (.ref th)) {o0 o1 o2 o4 : Option V} {N : Ends} (q : ∀ v H', Same H H' → N.nx [o0, o1, o2, some (.ref th), some v] H') :
    rLaw K N [o0, o1, o2, some (.ref th), o4] H := by
  refine asg_d (gd_bads1 (A := A) (B := B) (C := C) (E := E) (o := none)).r ⟨rfl, fun i d e => ?_⟩ fun v7 H7 s7 r7 => ?_
  · match i, e with
    | 0, e => cases e
    | 1, e => cases e
    | 2, e => cases e
    | 3, e => cases e; exact ⟨_, rfl, rx⟩
    | 4, e => cases e
  have enB : ∀ (v : V) (ds : List PyData) (H' : Hp), Same H H' → RX H' (.list ds) v → EnvOk H' [none, none, none, some (.tuple [A, B, C, E]), some (.list ds)] [o0, o1, o2, some (.ref th), some v] := fun v ds H' s' rv => ⟨rfl, fun i d e => by
    match i, e with
    | 0, e => cases e
    | 1, e => cases e
    | 2, e => cases e
    | 3, e => cases e; exact ⟨_, rfl, rx.same s'⟩
    | 4, e => cases e; exact ⟨_, rfl, rv⟩⟩
  refine asg_d (gr_bads2 D) (enB _ _ _ s7 r7) fun v8 H8 s8 r8 => ?_
  unfold tIfS tNot tB
  refine all_says (K := K) (js := []) (gr_bads3 D) (allBad_no D) (ble_le rfl) (enB _ _ _ (s7.trans s8) r8) fun H9 s9 => ?_
  refine ⟨_, rfl, ?_⟩
  refine iteF ?_
  exact q v8 H9 ((s7.trans s8).trans s9)
end
end K02

set_option maxHeartbeats 4000000
namespace K02
open PySem L2
def sp_law (K : PySem.W.Frag) : Sp := fun vs H Q _ => ∃ (a : Addr) (ns : List Int), vs = [.ref a] ∧ SqL K H a (ns.map V.int) ∧ ns.length ≤ 63 ∧ ∀ H', Q (.bl true) H'
theorem env_none {H : Hp} {σ : St} (n : Nat) (h : σ.length = n) : EnvOk H (List.replicate n none) σ := ⟨by simp [h], fun i d e => by
  rw [List.getElem?_replicate] at e
  split at e <;> cases e⟩
def emD : PyData := .tuple [.tuple [], .tuple [], .tuple [], .tuple []]
theorem em_yes : isHouseD emD = true := by decide +kernel
theorem em_ok : okD emD = true := by decide +kernel
theorem em_sh : SeqAt.shaped emD = true := by decide +kernel
theorem em_eq : (!PyData.eqv emD emD) = false := by decide +kernel
section
variable {P : Program} {w : World} {K : PySem.W.Frag} {mg : Str → Option Value} {base : Heap} {k_HIGHEST_RANK k_LOWEST_RANK k_MOST_LEAVES k_MOST_LETTERS k_MOST_PARTS k_MOST_RANKS k_MOST_RULES k_MOST_SEATS : Tok}
theorem ok_law {f : Addr} {fd : FuncData} (F : Fun K "law" "law" s_law f fd) (T : Txt K mg k_HIGHEST_RANK k_LOWEST_RANK k_MOST_LEAVES k_MOST_LETTERS k_MOST_PARTS k_MOST_RANKS k_MOST_RULES k_MOST_SEATS) (h_is_house : Has P w K mg base "is_house" 6 ["thing"] (sp1 isHouseD)) (h_empty_house : Has P w K mg base "empty_house" 1 [] sp_emp) (h_Lbox : Has P w K mg base "_law_box" 1 ["_law_script", "_law_k"] (sp_box K)) (h_Lnames : Has P w K mg base "_law_names" 2 ["_law_box_here", "_law_many_here"] sp_names)
    (h_Lhouse : Has P w K mg base "_law_house" 4 ["_law_box_here", "_law_names_here"] sp_house) (h_Lbad_parts : Has P w K mg base "_law_bad_parts" 1 ["_law_house_here"] (spBad badParts)) (h_Lbad_ranks : Has P w K mg base "_law_bad_ranks" 1 ["_law_house_here"] (spBad badRanks))
    (h_Lbad_leaves : Has P w K mg base "_law_bad_leaves" 1 ["_law_house_here"] (spBad badLeaves)) (h_Lbad_rules : Has P w K mg base "_law_bad_rules" 1 ["_law_house_here"] (spBad badRules)) (h_Lsays : Has P w K mg base "_law_says" 7 ["_law_thing", "_law_due"] sp_says) :
    FnOk P w K mg base CX0 8 f fd ["_law_script"] (sp_law K) := by
  refine F.ok sc_law (fun vs H Q E h => ?_) (fun cdv A outer s H vs Q E hr h => ?_)
  · obtain ⟨a, ns, rfl, _⟩ := h
    rfl
  · obtain ⟨a, ns, rfl, hS, hlen, q⟩ := h
    refine ⟨_, (pss_cons (ps_if (PW.pt (pw_or (pt_cmpR op_isnot_bool (pe_fn h_is_house (hr.mono (by decide)) rfl (pa_cons (pe_fn0 h_empty_house (hr.mono (by decide)) rfl) pa_nil)) pe_bl (nomark _)) (pw_or1 (pt_cmpR (op_ne_data hr.units) (pe_fn0 h_empty_house (hr.mono (by decide)) rfl) (pe_tup (pa_cons (pe_tup pa_nil) (pa_cons (pe_tup pa_nil) (pa_cons (pe_tup pa_nil) (pa_cons (pe_tup pa_nil) pa_nil))))) (nomark _))))) (pss_one (ps_ret pe_bl)) pss_nil) (pss_cons (ps_for PassesOwn.never rfl (pi_range1 rfl T.b_range (pa_cons (pe_op op_add pe_int (pe_callB (call_min2 rfl) rfl T.b_min (by decide +kernel) (pa_cons pe_int (pa_cons (pe_callB call_len rfl T.b_len (by decide +kernel) (pa_cons (pv 0) pa_nil)) pa_nil)))) pa_nil)) (pg_name (i := 1) sc_law.nd rfl (Or.inl rfl)) (pss_cons (ps_set (i := 2) sc_law.nd rfl (Or.inl rfl) (pe_fn h_Lbox (hr.mono (by decide)) rfl (pa_cons (pv 0) (pa_cons (pv 1) pa_nil)))) (pss_cons (ps_set (i := 3) sc_law.nd rfl (Or.inl rfl) (pe_ix ix_tup (pe_fn h_Lhouse (hr.mono (by decide)) rfl (pa_cons (pv 2) (pa_cons (pe_fn h_Lnames (hr.mono (by decide)) rfl (pa_cons (pv 2) (pa_cons pe_int pa_nil))) pa_nil))) pe_int (fun _ _ => rfl))) (pss_cons (ps_if (PW.pt (pw_or (pt_not (pt_val (pe_fn h_Lsays (hr.mono (by decide)) rfl (pa_cons (pv 3) (pa_cons pe_bl pa_nil))))) (pw_or1 (pt_not (pt_val (pe_fn h_Lsays (hr.mono (by decide)) rfl (pa_cons (pe_op op_catT (pe_slice sl_tupA (pv 3) po_none (po_some pe_int)) (pe_tup (pa_cons (pe_tup pa_nil) (pa_cons (pe_tup pa_nil) (pa_cons (pe_tup pa_nil) pa_nil))))) (pa_cons pe_bl pa_nil)))))))) (pss_one (ps_ret pe_bl)) pss_nil) (pss_cons (ps_set (i := 4) sc_law.nd rfl (Or.inl rfl) (pe_lst (pa_cons (pe_callTy call_list_of rfl T.b_list (by decide +kernel) (pa_cons (pv 3) pa_nil)) (pa_cons (pe_op op_catT (pv 3) (pe_tup (pa_cons (pe_tup pa_nil) pa_nil))) (pa_cons (pe_slice sl_tupA (pv 3) po_none (po_some pe_int)) (pa_cons (pe_back (pv 3) (pe_un un_neg pe_int)) (pa_cons pe_non (pa_cons pe_bl (pa_cons pe_int (pa_cons pe_str (pa_cons (pe_tup pa_nil) (pa_cons (pe_lst pa_nil) (pa_cons (pe_tup (pa_cons (pv 3) pa_nil)) pa_nil))))))))))))) (pss_cons (ps_set (i := 4) sc_law.nd rfl (Or.inl rfl) (pe_op op_cat (pe_op op_cat (pv 4) (pe_fn h_Lbad_parts (hr.mono (by decide)) rfl (pa_cons (pe_tup (pa_cons (pe_ix ix_tup (pv 3) pe_int (fun _ _ => rfl)) (pa_cons (pe_tup pa_nil) (pa_cons (pe_tup pa_nil) (pa_cons (pe_tup pa_nil) pa_nil))))) pa_nil))) (pe_fn h_Lbad_ranks (hr.mono (by decide)) rfl (pa_cons (pv 3) pa_nil)))) (pss_one (ps_if (pt_not (pt_val (pe_callB (call_all rfl) rfl T.b_all (by decide +kernel) (pa_cons (pe_lc (T := .one) (NT := (["_law_thing"] : List Str)) (NF := ([] : List Str)) (js := []) (BlkC.ok (N0 := (["_law_script", "_law_k", "_law_box_here", "_law_house_here", "_law_bad"] : List Str)) (osc := defScope s_law) (by decide +kernel) rfl rfl) (⟨_, ⟨_, rfl⟩, rfl⟩) rfl (pi_list (pe_op op_cat (pe_op op_cat (pv 4) (pe_fn h_Lbad_leaves (hr.mono (by decide)) rfl (pa_cons (pv 3) pa_nil))) (pe_fn h_Lbad_rules (hr.mono (by decide)) rfl (pa_cons (pv 3) pa_nil)))) (fun b => ⟨pts_nil, (pe_fn h_Lsays (hr.mono (by decide)) rfl (pa_cons (pv 0) (pa_cons pe_bl pa_nil)))⟩)) pa_nil)))) (pss_one (ps_ret pe_bl)) pss_nil)))))))) (pss_one (ps_ret pe_bl)))), ?_⟩
    refine seq_hide fun W0 hW0 => ?_
    refine ⟨⟨rfl, fun v1 H1 s1 r1 => ⟨v1, emD, rfl, r1, em_ok, fun H2 s2 => ?_⟩⟩⟩
    refine ⟨_, _, rfl, rfl, _, rfl, ?_⟩
    rw [em_yes]
    refine iteF ?_
    refine ⟨⟨rfl, fun v3 H3 s3 r3 => ?_⟩⟩
    refine GivesD.run (Γ := List.replicate 5 none) (gdTup (gs_cons (gdTup gs_nil rfl) (gs_cons (gdTup gs_nil rfl) (gs_cons (gdTup gs_nil rfl) (gs_cons (gdTup gs_nil rfl) gs_nil)))) rfl) (env_none 5 rfl) fun v4 H4 s4 r4 => ?_
    refine ⟨emD, emD, r3.same s4, r4, em_sh, em_sh, _, rfl, ?_⟩
    rw [em_eq]
    refine iteF ?_
    have s14 := ((s1.trans s2).trans s3).trans s4
    have hml : (ns.map V.int).length = ns.length := List.length_map ..
    refine hW0 _ _ ?_
    refine seq_hide fun W1 hW1 => ?_
    refine ⟨_, rfl, _, _, rfl, .inl ⟨_, s14.seq hS, rfl⟩, _, _, rfl, _, _, rfl, rfl, _, rfl, ?_, ?_, ?_⟩
    · rw [hml]; split <;> omega
    · rw [hml]; split <;> omega
    refine for_range (fun i σ H' => (∃ v1 v2 v3 v4, σ = [some (.ref a), v1, v2, v3, v4]) ∧ Same H H') ⟨⟨_, _, _, _, rfl⟩, s14⟩ ?_ (fun σ H' _ => hW1 _ _ (q H'))
    rintro i σ H0 hi ⟨⟨v1, v2, v3, v4, rfl⟩, s0⟩
    have hi7 : i < 7 := by
      rw [hml] at hi
      split at hi <;> omega
    refine seq_hide fun Z1 hZ1 => ?_
    refine ⟨_, rfl, _, rfl, a, ns, _, rfl, s0.seq hS, by omega, by omega, by omega, fun p H1 hp s1 b1 => ?_⟩
    refine hZ1 _ _ ?_
    refine seq_hide fun Z2 hZ2 => ?_
    refine ⟨_, rfl, _, rfl, p, 9, 0, rfl, b1, by decide, by decide, by decide, fun nl zs H2 hnl nm z9 dnl b2 x2 => ?_⟩
    refine ⟨p, nl, _, zs, rfl, b2, by decide, dnl, z9, nm, fun t L th rows hd H3 ht hL t3 pr l1 ok gen rx b3 x3 => ?_⟩
    refine ⟨t, _, 1, .ref th, rfl, rfl, SqT.of t3, rfl, ?_⟩
    refine hZ2 _ _ ?_
    refine seq_hide fun Z3 hZ3 => ?_
    have s3 : Same H0 H3 := Ext.to_same hp s1 (x2.trans x3)
    have shw := house_shw nm.2 ok gen
    obtain ⟨A, B, C, E, as, nme, sg, wn, D⟩ := drawn_of nm ok (by rw [List.length_map]; exact l1) gen
    have hyes := D.yes
    rw [D.eH] at rx shw hyes
    have a4 := D.A4
    have okH : okD (.tuple [A, B, C, E]) = true := ok_tup (fun d hd => (D.bth d hd).o) (by simp)
    have shH : Shw 60 sizeLine (.tuple [A, B, C, E]) := shw.mono (by decide) (line_big (by decide))
    have dy : decide (isHouseD (.tuple [A, B, C, E]) = true) = true := by rw [hyes]; rfl
    refine ⟨_, rfl, .ref th, true, _, rfl, rx, okH, shH, fun H4 s4 => ⟨_, rfl, ?_⟩⟩
    rw [dy]
    refine iteF ?_
    have en4 : ∀ (o0 o1 o2 o4 : Option V) (H' : Hp), Same H3 H' → EnvOk H' [none, none, none, some (.tuple [A, B, C, E]), none] [o0, o1, o2, some (.ref th), o4] := fun o0 o1 o2 o4 H' s' => ⟨rfl, fun i d e => by
      match i, e with
      | 0, e => cases e
      | 1, e => cases e
      | 2, e => cases e
      | 3, e => cases e; exact ⟨_, rfl, rx.same s'⟩
      | 4, e => cases e⟩
    have et : Bth 4 32000 (.tuple []) := (fit_bth (c := 1) (n := 1) (by decide) (by rfl)).mono (by decide) (by decide)
    have y2 : isHouseD (.tuple [A, .tuple [], .tuple [], .tuple []]) = true := by
      show (partsD A && _) = true
      rw [D.pin.pd]
      rfl
    have b2' : Bth 5 (4 * (32000 + 2) + 3) (.tuple [A, .tuple [], .tuple [], .tuple []]) := bth_tup (C := 4) (four a4.1 et et et) (by simp)
    refine GivesD.run (Γ := [none, none, none, some (.tuple [A, B, C, E]), none]) (gdCatT (gd_sl (gd_var rfl) go_none (go_some gd_int)) (gdTup (gs_cons (gdTup gs_nil rfl) (gs_cons (gdTup gs_nil rfl) (gs_cons (gdTup gs_nil rfl) gs_nil))) rfl) rfl rfl) (en4 _ _ _ _ _ s4) fun v5 H5 s5 r5 => ?_
    have r5' : RX H5 (.tuple [A, .tuple [], .tuple [], .tuple []]) v5 := r5
    refine ⟨v5, true, _, rfl, r5', b2'.o, b2'.s.mono (by decide) (line_big (by decide)), fun H6 s6 => ⟨_, rfl, ?_⟩⟩
    rw [show decide (isHouseD (.tuple [A, .tuple [], .tuple [], .tuple []]) = true) = true by rw [y2]; rfl]
    refine iteF ?_
    have s36 : Same H3 H6 := (s4.trans s5).trans s6
    unfold tNext
    refine hZ3 _ _ ?_
    exact run_rLaw (o0 := some (.ref a)) (o1 := some (.int (0 + i))) (o2 := some (.ref p)) (o4 := v4) D (rx.same s36) fun v H9 s9 => ⟨⟨_, _, _, _, rfl⟩, s0.trans (s3.trans (s36.trans s9))⟩
end
end K02

set_option maxHeartbeats 4000000
namespace K02
open PySem L2
theorem all_mk {l : PySem.W.OpenLaw} {w : World} {K : PySem.W.Frag} {h : Heap} {mg : Str → Option Value} {fa : Addr} (X : K.In h) (G : h.Ns mainGlobals mg) (hfa : mg "law" = some (.ref fa))
    {f0 f1 f2 f3 f4 f5 f6 f7 f8 f9 f10 f11 f12 f13 f14 f15 f16 f17 f18 f19 f20 f21 f22 f23 f24 f25 f26 f27 f28 f29 f30 f31 f32 : Addr} {od0 an0 od1 an1 od2 an2 od3 an3 od4 an4 od5 an5 od6 an6 od7 an7 od8 an8 od9 an9 od10 an10 od11 an11 od12 an12 od13 an13 od14 an14 od15 an15 od16 an16 od17 an17 od18 an18 od19 an19 od20 an20 od21 an21 od22 an22 od23 an23 od24 an24 od25 an25 od26 an26 od27 an27 od28 an28 od29 an29 od30 an30 od31 an31 od32 an32 : Option Addr} {sl0 sl1 sl2 sl3 sl4 sl5 sl6 sl7 sl8 sl9 sl10 sl11 sl12 sl13 sl14 sl15 sl16 sl17 sl18 sl19 sl20 sl21 sl22 sl23 sl24 sl25 sl26 sl27 sl28 sl29 sl30 sl31 sl32 : Array (Option Value)} {oc0 kV0 dc0 pm0 cd0 ct0 oc1 kV1 dc1 pm1 cd1 ct1 oc2 kV2 dc2 pm2 cd2 ct2 oc3 kV3 dc3 pm3 cd3 ct3 oc4 kV4 dc4 pm4 cd4 ct4 oc5 kV5 dc5 pm5 cd5 ct5 oc6 kV6 dc6 pm6 cd6 ct6 oc7 kV7 dc7 pm7 cd7 ct7 oc8 kV8 dc8 pm8 cd8 ct8 oc9 kV9 dc9 pm9 cd9 ct9 oc10 kV10 dc10 pm10 cd10 ct10 oc11 kV11 dc11 pm11 cd11 ct11 oc12 kV12 dc12 pm12 cd12 ct12 oc13 kV13 dc13 pm13 cd13 ct13 oc14 kV14 dc14 pm14 cd14 ct14 oc15 kV15 dc15 pm15 cd15 ct15 oc16 kV16 dc16 pm16 cd16 ct16 oc17 kV17 dc17 pm17 cd17 ct17 oc18 kV18 dc18 pm18 cd18 ct18 oc19 kV19 dc19 pm19 cd19 ct19 oc20 kV20 dc20 pm20 cd20 ct20 oc21 kV21 dc21 pm21 cd21 ct21 oc22 kV22 dc22 pm22 cd22 ct22 oc23 kV23 dc23 pm23 cd23 ct23 oc24 kV24 dc24 pm24 cd24 ct24 oc25 kV25 dc25 pm25 cd25 ct25 oc26 kV26 dc26 pm26 cd26 ct26 oc27 kV27 dc27 pm27 cd27 ct27 oc28 kV28 dc28 pm28 cd28 ct28 oc29 kV29 dc29 pm29 cd29 ct29 oc30 kV30 dc30 pm30 cd30 ct30 oc31 kV31 dc31 pm31 cd31 ct31 oc32 kV32 dc32 pm32 cd32 ct32 : Value} {k_HIGHEST_RANK k_LOWEST_RANK k_MOST_LEAVES k_MOST_LETTERS k_MOST_PARTS k_MOST_RANKS k_MOST_RULES k_MOST_SEATS : Tok}
    (a0 : PySem.W.nsIn K mainGlobals "is_name" = some (some (.ref f0))) (l0 : K.lookup f0 = some ⟨oc0, od0, .func (PySem.W.fnOf "is_name" "is_name" (defArgs s_is_name) (defBody s_is_name) (defScope s_is_name) .none kV0 dc0 pm0 an0 cd0 ct0), sl0⟩) (c0 : PySem.W.codeIn K cd0 "is_name" = true) (k0 : PySem.W.keepIn K (.ref f0) = true)
    (a1 : PySem.W.nsIn K mainGlobals "is_number" = some (some (.ref f1))) (l1 : K.lookup f1 = some ⟨oc1, od1, .func (PySem.W.fnOf "is_number" "is_number" (defArgs s_is_number) (defBody s_is_number) (defScope s_is_number) .none kV1 dc1 pm1 an1 cd1 ct1), sl1⟩) (c1 : PySem.W.codeIn K cd1 "is_number" = true) (k1 : PySem.W.keepIn K (.ref f1) = true)
    (a2 : PySem.W.nsIn K mainGlobals "empty_house" = some (some (.ref f2))) (l2 : K.lookup f2 = some ⟨oc2, od2, .func (PySem.W.fnOf "empty_house" "empty_house" (defArgs s_empty_house) (defBody s_empty_house) (defScope s_empty_house) .none kV2 dc2 pm2 an2 cd2 ct2), sl2⟩) (c2 : PySem.W.codeIn K cd2 "empty_house" = true) (k2 : PySem.W.keepIn K (.ref f2) = true)
    (a3 : PySem.W.nsIn K mainGlobals "is_house" = some (some (.ref f3))) (l3 : K.lookup f3 = some ⟨oc3, od3, .func (PySem.W.fnOf "is_house" "is_house" (defArgs s_is_house) (defBody s_is_house) (defScope s_is_house) .none kV3 dc3 pm3 an3 cd3 ct3), sl3⟩) (c3 : PySem.W.codeIn K cd3 "is_house" = true) (k3 : PySem.W.keepIn K (.ref f3) = true)
    (a4 : PySem.W.nsIn K mainGlobals "are_parts" = some (some (.ref f4))) (l4 : K.lookup f4 = some ⟨oc4, od4, .func (PySem.W.fnOf "are_parts" "are_parts" (defArgs s_are_parts) (defBody s_are_parts) (defScope s_are_parts) .none kV4 dc4 pm4 an4 cd4 ct4), sl4⟩) (c4 : PySem.W.codeIn K cd4 "are_parts" = true) (k4 : PySem.W.keepIn K (.ref f4) = true)
    (a5 : PySem.W.nsIn K mainGlobals "comes_to_an_end" = some (some (.ref f5))) (l5 : K.lookup f5 = some ⟨oc5, od5, .func (PySem.W.fnOf "comes_to_an_end" "comes_to_an_end" (defArgs s_comes_to_an_end) (defBody s_comes_to_an_end) (defScope s_comes_to_an_end) .none kV5 dc5 pm5 an5 cd5 ct5), sl5⟩) (c5 : PySem.W.codeIn K cd5 "comes_to_an_end" = true) (k5 : PySem.W.keepIn K (.ref f5) = true)
    (a6 : PySem.W.nsIn K mainGlobals "are_ranks" = some (some (.ref f6))) (l6 : K.lookup f6 = some ⟨oc6, od6, .func (PySem.W.fnOf "are_ranks" "are_ranks" (defArgs s_are_ranks) (defBody s_are_ranks) (defScope s_are_ranks) .none kV6 dc6 pm6 an6 cd6 ct6), sl6⟩) (c6 : PySem.W.codeIn K cd6 "are_ranks" = true) (k6 : PySem.W.keepIn K (.ref f6) = true)
    (a7 : PySem.W.nsIn K mainGlobals "is_rank_row" = some (some (.ref f7))) (l7 : K.lookup f7 = some ⟨oc7, od7, .func (PySem.W.fnOf "is_rank_row" "is_rank_row" (defArgs s_is_rank_row) (defBody s_is_rank_row) (defScope s_is_rank_row) .none kV7 dc7 pm7 an7 cd7 ct7), sl7⟩) (c7 : PySem.W.codeIn K cd7 "is_rank_row" = true) (k7 : PySem.W.keepIn K (.ref f7) = true)
    (a8 : PySem.W.nsIn K mainGlobals "are_leaves" = some (some (.ref f8))) (l8 : K.lookup f8 = some ⟨oc8, od8, .func (PySem.W.fnOf "are_leaves" "are_leaves" (defArgs s_are_leaves) (defBody s_are_leaves) (defScope s_are_leaves) .none kV8 dc8 pm8 an8 cd8 ct8), sl8⟩) (c8 : PySem.W.codeIn K cd8 "are_leaves" = true) (k8 : PySem.W.keepIn K (.ref f8) = true)
    (a9 : PySem.W.nsIn K mainGlobals "is_leave_row" = some (some (.ref f9))) (l9 : K.lookup f9 = some ⟨oc9, od9, .func (PySem.W.fnOf "is_leave_row" "is_leave_row" (defArgs s_is_leave_row) (defBody s_is_leave_row) (defScope s_is_leave_row) .none kV9 dc9 pm9 an9 cd9 ct9), sl9⟩) (c9 : PySem.W.codeIn K cd9 "is_leave_row" = true) (k9 : PySem.W.keepIn K (.ref f9) = true)
    (a10 : PySem.W.nsIn K mainGlobals "are_rules" = some (some (.ref f10))) (l10 : K.lookup f10 = some ⟨oc10, od10, .func (PySem.W.fnOf "are_rules" "are_rules" (defArgs s_are_rules) (defBody s_are_rules) (defScope s_are_rules) .none kV10 dc10 pm10 an10 cd10 ct10), sl10⟩) (c10 : PySem.W.codeIn K cd10 "are_rules" = true) (k10 : PySem.W.keepIn K (.ref f10) = true)
    (a11 : PySem.W.nsIn K mainGlobals "is_rule_row" = some (some (.ref f11))) (l11 : K.lookup f11 = some ⟨oc11, od11, .func (PySem.W.fnOf "is_rule_row" "is_rule_row" (defArgs s_is_rule_row) (defBody s_is_rule_row) (defScope s_is_rule_row) .none kV11 dc11 pm11 an11 cd11 ct11), sl11⟩) (c11 : PySem.W.codeIn K cd11 "is_rule_row" = true) (k11 : PySem.W.keepIn K (.ref f11) = true)
    (a12 : PySem.W.nsIn K mainGlobals "is_tuple_of" = some (some (.ref f12))) (l12 : K.lookup f12 = some ⟨oc12, od12, .func (PySem.W.fnOf "is_tuple_of" "is_tuple_of" (defArgs s_is_tuple_of) (defBody s_is_tuple_of) (defScope s_is_tuple_of) .none kV12 dc12 pm12 an12 cd12 ct12), sl12⟩) (c12 : PySem.W.codeIn K cd12 "is_tuple_of" = true) (k12 : PySem.W.keepIn K (.ref f12) = true)
    (a13 : PySem.W.nsIn K mainGlobals "are_tuples_of" = some (some (.ref f13))) (l13 : K.lookup f13 = some ⟨oc13, od13, .func (PySem.W.fnOf "are_tuples_of" "are_tuples_of" (defArgs s_are_tuples_of) (defBody s_are_tuples_of) (defScope s_are_tuples_of) .none kV13 dc13 pm13 an13 cd13 ct13), sl13⟩) (c13 : PySem.W.codeIn K cd13 "are_tuples_of" = true) (k13 : PySem.W.keepIn K (.ref f13) = true)
    (a14 : PySem.W.nsIn K mainGlobals "is_rising" = some (some (.ref f14))) (l14 : K.lookup f14 = some ⟨oc14, od14, .func (PySem.W.fnOf "is_rising" "is_rising" (defArgs s_is_rising) (defBody s_is_rising) (defScope s_is_rising) .none kV14 dc14 pm14 an14 cd14 ct14), sl14⟩) (c14 : PySem.W.codeIn K cd14 "is_rising" = true) (k14 : PySem.W.keepIn K (.ref f14) = true)
    (a15 : PySem.W.nsIn K mainGlobals "is_from_nought" = some (some (.ref f15))) (l15 : K.lookup f15 = some ⟨oc15, od15, .func (PySem.W.fnOf "is_from_nought" "is_from_nought" (defArgs s_is_from_nought) (defBody s_is_from_nought) (defScope s_is_from_nought) .none kV15 dc15 pm15 an15 cd15 ct15), sl15⟩) (c15 : PySem.W.codeIn K cd15 "is_from_nought" = true) (k15 : PySem.W.keepIn K (.ref f15) = true)
    (a16 : PySem.W.nsIn K mainGlobals "is_rank" = some (some (.ref f16))) (l16 : K.lookup f16 = some ⟨oc16, od16, .func (PySem.W.fnOf "is_rank" "is_rank" (defArgs s_is_rank) (defBody s_is_rank) (defScope s_is_rank) .none kV16 dc16 pm16 an16 cd16 ct16), sl16⟩) (c16 : PySem.W.codeIn K cd16 "is_rank" = true) (k16 : PySem.W.keepIn K (.ref f16) = true)
    (a17 : PySem.W.nsIn K mainGlobals "are_days" = some (some (.ref f17))) (l17 : K.lookup f17 = some ⟨oc17, od17, .func (PySem.W.fnOf "are_days" "are_days" (defArgs s_are_days) (defBody s_are_days) (defScope s_are_days) .none kV17 dc17 pm17 an17 cd17 ct17), sl17⟩) (c17 : PySem.W.codeIn K cd17 "are_days" = true) (k17 : PySem.W.keepIn K (.ref f17) = true)
    (a18 : PySem.W.nsIn K mainGlobals "_law_box" = some (some (.ref f18))) (l18 : K.lookup f18 = some ⟨oc18, od18, .func (PySem.W.fnOf "_law_box" "_law_box" (defArgs s_Lbox) (defBody s_Lbox) (defScope s_Lbox) .none kV18 dc18 pm18 an18 cd18 ct18), sl18⟩) (c18 : PySem.W.codeIn K cd18 "_law_box" = true) (k18 : PySem.W.keepIn K (.ref f18) = true)
    (a19 : PySem.W.nsIn K mainGlobals "_law_take" = some (some (.ref f19))) (l19 : K.lookup f19 = some ⟨oc19, od19, .func (PySem.W.fnOf "_law_take" "_law_take" (defArgs s_Ltake) (defBody s_Ltake) (defScope s_Ltake) .none kV19 dc19 pm19 an19 cd19 ct19), sl19⟩) (c19 : PySem.W.codeIn K cd19 "_law_take" = true) (k19 : PySem.W.keepIn K (.ref f19) = true)
    (a20 : PySem.W.nsIn K mainGlobals "_law_names" = some (some (.ref f20))) (l20 : K.lookup f20 = some ⟨oc20, od20, .func (PySem.W.fnOf "_law_names" "_law_names" (defArgs s_Lnames) (defBody s_Lnames) (defScope s_Lnames) .none kV20 dc20 pm20 an20 cd20 ct20), sl20⟩) (c20 : PySem.W.codeIn K cd20 "_law_names" = true) (k20 : PySem.W.keepIn K (.ref f20) = true)
    (a21 : PySem.W.nsIn K mainGlobals "_law_day" = some (some (.ref f21))) (l21 : K.lookup f21 = some ⟨oc21, od21, .func (PySem.W.fnOf "_law_day" "_law_day" (defArgs s_Lday) (defBody s_Lday) (defScope s_Lday) .none kV21 dc21 pm21 an21 cd21 ct21), sl21⟩) (c21 : PySem.W.codeIn K cd21 "_law_day" = true) (k21 : PySem.W.keepIn K (.ref f21) = true)
    (a22 : PySem.W.nsIn K mainGlobals "_law_sum" = some (some (.ref f22))) (l22 : K.lookup f22 = some ⟨oc22, od22, .func (PySem.W.fnOf "_law_sum" "_law_sum" (defArgs s_Lsum) (defBody s_Lsum) (defScope s_Lsum) .none kV22 dc22 pm22 an22 cd22 ct22), sl22⟩) (c22 : PySem.W.codeIn K cd22 "_law_sum" = true) (k22 : PySem.W.keepIn K (.ref f22) = true)
    (a23 : PySem.W.nsIn K mainGlobals "_law_numbers" = some (some (.ref f23))) (l23 : K.lookup f23 = some ⟨oc23, od23, .func (PySem.W.fnOf "_law_numbers" "_law_numbers" (defArgs s_Lnumbers) (defBody s_Lnumbers) (defScope s_Lnumbers) .none kV23 dc23 pm23 an23 cd23 ct23), sl23⟩) (c23 : PySem.W.codeIn K cd23 "_law_numbers" = true) (k23 : PySem.W.keepIn K (.ref f23) = true)
    (a24 : PySem.W.nsIn K mainGlobals "_law_many" = some (some (.ref f24))) (l24 : K.lookup f24 = some ⟨oc24, od24, .func (PySem.W.fnOf "_law_many" "_law_many" (defArgs s_Lmany) (defBody s_Lmany) (defScope s_Lmany) .none kV24 dc24 pm24 an24 cd24 ct24), sl24⟩) (c24 : PySem.W.codeIn K cd24 "_law_many" = true) (k24 : PySem.W.keepIn K (.ref f24) = true)
    (a25 : PySem.W.nsIn K mainGlobals "_law_parts" = some (some (.ref f25))) (l25 : K.lookup f25 = some ⟨oc25, od25, .func (PySem.W.fnOf "_law_parts" "_law_parts" (defArgs s_Lparts) (defBody s_Lparts) (defScope s_Lparts) .none kV25 dc25 pm25 an25 cd25 ct25), sl25⟩) (c25 : PySem.W.codeIn K cd25 "_law_parts" = true) (k25 : PySem.W.keepIn K (.ref f25) = true)
    (a26 : PySem.W.nsIn K mainGlobals "_law_house" = some (some (.ref f26))) (l26 : K.lookup f26 = some ⟨oc26, od26, .func (PySem.W.fnOf "_law_house" "_law_house" (defArgs s_Lhouse) (defBody s_Lhouse) (defScope s_Lhouse) .none kV26 dc26 pm26 an26 cd26 ct26), sl26⟩) (c26 : PySem.W.codeIn K cd26 "_law_house" = true) (k26 : PySem.W.keepIn K (.ref f26) = true)
    (a27 : PySem.W.nsIn K mainGlobals "_law_bad_parts" = some (some (.ref f27))) (l27 : K.lookup f27 = some ⟨oc27, od27, .func (PySem.W.fnOf "_law_bad_parts" "_law_bad_parts" (defArgs s_Lbad_parts) (defBody s_Lbad_parts) (defScope s_Lbad_parts) .none kV27 dc27 pm27 an27 cd27 ct27), sl27⟩) (c27 : PySem.W.codeIn K cd27 "_law_bad_parts" = true) (k27 : PySem.W.keepIn K (.ref f27) = true)
    (a28 : PySem.W.nsIn K mainGlobals "_law_bad_ranks" = some (some (.ref f28))) (l28 : K.lookup f28 = some ⟨oc28, od28, .func (PySem.W.fnOf "_law_bad_ranks" "_law_bad_ranks" (defArgs s_Lbad_ranks) (defBody s_Lbad_ranks) (defScope s_Lbad_ranks) .none kV28 dc28 pm28 an28 cd28 ct28), sl28⟩) (c28 : PySem.W.codeIn K cd28 "_law_bad_ranks" = true) (k28 : PySem.W.keepIn K (.ref f28) = true)
    (a29 : PySem.W.nsIn K mainGlobals "_law_bad_leaves" = some (some (.ref f29))) (l29 : K.lookup f29 = some ⟨oc29, od29, .func (PySem.W.fnOf "_law_bad_leaves" "_law_bad_leaves" (defArgs s_Lbad_leaves) (defBody s_Lbad_leaves) (defScope s_Lbad_leaves) .none kV29 dc29 pm29 an29 cd29 ct29), sl29⟩) (c29 : PySem.W.codeIn K cd29 "_law_bad_leaves" = true) (k29 : PySem.W.keepIn K (.ref f29) = true)
    (a30 : PySem.W.nsIn K mainGlobals "_law_bad_rules" = some (some (.ref f30))) (l30 : K.lookup f30 = some ⟨oc30, od30, .func (PySem.W.fnOf "_law_bad_rules" "_law_bad_rules" (defArgs s_Lbad_rules) (defBody s_Lbad_rules) (defScope s_Lbad_rules) .none kV30 dc30 pm30 an30 cd30 ct30), sl30⟩) (c30 : PySem.W.codeIn K cd30 "_law_bad_rules" = true) (k30 : PySem.W.keepIn K (.ref f30) = true)
    (a31 : PySem.W.nsIn K mainGlobals "_law_says" = some (some (.ref f31))) (l31 : K.lookup f31 = some ⟨oc31, od31, .func (PySem.W.fnOf "_law_says" "_law_says" (defArgs s_Lsays) (defBody s_Lsays) (defScope s_Lsays) .none kV31 dc31 pm31 an31 cd31 ct31), sl31⟩) (c31 : PySem.W.codeIn K cd31 "_law_says" = true) (k31 : PySem.W.keepIn K (.ref f31) = true)
    (a32 : PySem.W.nsIn K mainGlobals "law" = some (some (.ref f32))) (l32 : K.lookup f32 = some ⟨oc32, od32, .func (PySem.W.fnOf "law" "law" (defArgs s_law) (defBody s_law) (defScope s_law) .none kV32 dc32 pm32 an32 cd32 ct32), sl32⟩) (c32 : PySem.W.codeIn K cd32 "law" = true) (k32 : PySem.W.keepIn K (.ref f32) = true)
    (b_abs : PySem.W.nsIn K mainGlobals "abs" = some none)
    (b_all : PySem.W.nsIn K mainGlobals "all" = some none)
    (b_bool : PySem.W.nsIn K mainGlobals "bool" = some none)
    (b_int : PySem.W.nsIn K mainGlobals "int" = some none)
    (b_isinstance : PySem.W.nsIn K mainGlobals "isinstance" = some none)
    (b_len : PySem.W.nsIn K mainGlobals "len" = some none)
    (b_list : PySem.W.nsIn K mainGlobals "list" = some none)
    (b_max : PySem.W.nsIn K mainGlobals "max" = some none)
    (b_min : PySem.W.nsIn K mainGlobals "min" = some none)
    (b_range : PySem.W.nsIn K mainGlobals "range" = some none)
    (b_repr : PySem.W.nsIn K mainGlobals "repr" = some none)
    (b_sorted : PySem.W.nsIn K mainGlobals "sorted" = some none)
    (b_str : PySem.W.nsIn K mainGlobals "str" = some none)
    (b_tuple : PySem.W.nsIn K mainGlobals "tuple" = some none)
    (b_zip : PySem.W.nsIn K mainGlobals "zip" = some none)
    (g_HIGHEST_RANK : PySem.W.nsIn K mainGlobals "HIGHEST_RANK" = some (some (.int 9 k_HIGHEST_RANK)))
    (g_LOWEST_RANK : PySem.W.nsIn K mainGlobals "LOWEST_RANK" = some (some (.int 1 k_LOWEST_RANK)))
    (g_MOST_LEAVES : PySem.W.nsIn K mainGlobals "MOST_LEAVES" = some (some (.int 16 k_MOST_LEAVES)))
    (g_MOST_LETTERS : PySem.W.nsIn K mainGlobals "MOST_LETTERS" = some (some (.int 8 k_MOST_LETTERS)))
    (g_MOST_PARTS : PySem.W.nsIn K mainGlobals "MOST_PARTS" = some (some (.int 8 k_MOST_PARTS)))
    (g_MOST_RANKS : PySem.W.nsIn K mainGlobals "MOST_RANKS" = some (some (.int 20 k_MOST_RANKS)))
    (g_MOST_RULES : PySem.W.nsIn K mainGlobals "MOST_RULES" = some (some (.int 10 k_MOST_RULES)))
    (g_MOST_SEATS : PySem.W.nsIn K mainGlobals "MOST_SEATS" = some (some (.int 6 k_MOST_SEATS)))
    : ∃ fd : FuncData, (∀ (s : Shared) (v : Value), BindsTo s fd ⟨[v], []⟩ [("_law_script", v)]) ∧ ∀ base : Heap, K.In base → base.Ns mainGlobals mg → FnOk l.prog w K mg base CX0 8 fa fd ["_law_script"] (sp_law K) := by
  have e := hfa.symm.trans (PySem.W.mg_of X G a32)
  cases e
  have T : Txt K mg k_HIGHEST_RANK k_LOWEST_RANK k_MOST_LEAVES k_MOST_LETTERS k_MOST_PARTS k_MOST_RANKS k_MOST_RULES k_MOST_SEATS := ⟨PySem.W.mg_none_of X G b_abs, PySem.W.mg_none_of X G b_all, PySem.W.mg_none_of X G b_bool, PySem.W.mg_none_of X G b_int, PySem.W.mg_none_of X G b_isinstance, PySem.W.mg_none_of X G b_len, PySem.W.mg_none_of X G b_list, PySem.W.mg_none_of X G b_max, PySem.W.mg_none_of X G b_min, PySem.W.mg_none_of X G b_range, PySem.W.mg_none_of X G b_repr, PySem.W.mg_none_of X G b_sorted, PySem.W.mg_none_of X G b_str, PySem.W.mg_none_of X G b_tuple, PySem.W.mg_none_of X G b_zip, PySem.W.mg_of X G g_HIGHEST_RANK, PySem.W.mg_of X G g_LOWEST_RANK, PySem.W.mg_of X G g_MOST_LEAVES, PySem.W.mg_of X G g_MOST_LETTERS, PySem.W.mg_of X G g_MOST_PARTS, PySem.W.mg_of X G g_MOST_RANKS, PySem.W.mg_of X G g_MOST_RULES, PySem.W.mg_of X G g_MOST_SEATS⟩
  have F0 := fun_mk (st := s_is_name) l0 c0 k0
  have F1 := fun_mk (st := s_is_number) l1 c1 k1
  have F2 := fun_mk (st := s_empty_house) l2 c2 k2
  have F3 := fun_mk (st := s_is_house) l3 c3 k3
  have F4 := fun_mk (st := s_are_parts) l4 c4 k4
  have F5 := fun_mk (st := s_comes_to_an_end) l5 c5 k5
  have F6 := fun_mk (st := s_are_ranks) l6 c6 k6
  have F7 := fun_mk (st := s_is_rank_row) l7 c7 k7
  have F8 := fun_mk (st := s_are_leaves) l8 c8 k8
  have F9 := fun_mk (st := s_is_leave_row) l9 c9 k9
  have F10 := fun_mk (st := s_are_rules) l10 c10 k10
  have F11 := fun_mk (st := s_is_rule_row) l11 c11 k11
  have F12 := fun_mk (st := s_is_tuple_of) l12 c12 k12
  have F13 := fun_mk (st := s_are_tuples_of) l13 c13 k13
  have F14 := fun_mk (st := s_is_rising) l14 c14 k14
  have F15 := fun_mk (st := s_is_from_nought) l15 c15 k15
  have F16 := fun_mk (st := s_is_rank) l16 c16 k16
  have F17 := fun_mk (st := s_are_days) l17 c17 k17
  have F18 := fun_mk (st := s_Lbox) l18 c18 k18
  have F19 := fun_mk (st := s_Ltake) l19 c19 k19
  have F20 := fun_mk (st := s_Lnames) l20 c20 k20
  have F21 := fun_mk (st := s_Lday) l21 c21 k21
  have F22 := fun_mk (st := s_Lsum) l22 c22 k22
  have F23 := fun_mk (st := s_Lnumbers) l23 c23 k23
  have F24 := fun_mk (st := s_Lmany) l24 c24 k24
  have F25 := fun_mk (st := s_Lparts) l25 c25 k25
  have F26 := fun_mk (st := s_Lhouse) l26 c26 k26
  have F27 := fun_mk (st := s_Lbad_parts) l27 c27 k27
  have F28 := fun_mk (st := s_Lbad_ranks) l28 c28 k28
  have F29 := fun_mk (st := s_Lbad_leaves) l29 c29 k29
  have F30 := fun_mk (st := s_Lbad_rules) l30 c30 k30
  have F31 := fun_mk (st := s_Lsays) l31 c31 k31
  have F32 := fun_mk (st := s_law) l32 c32 k32
  refine ⟨PySem.W.fnOf "law" "law" (defArgs s_law) (defBody s_law) (defScope s_law) .none kV32 dc32 pm32 an32 cd32 ct32, fun s v => .of_eq rfl, fun base _ _ => ?_⟩
  have o_is_name := ok_is_name' (P := l.prog) (w := w) (mg := mg) (base := base) F0 T
  have h_is_name : Has l.prog w K mg base "is_name" 1 (["thing"] : List Str) _ := ⟨f0, _, PySem.W.mg_of X G a0, k0, F0.binds (ps := (["thing"] : List Str)) (fun _ _ _ _ _ _ us hl => match us, hl with | [_], _ => rfl), o_is_name⟩
  have o_is_number := ok_is_number (P := l.prog) (w := w) (mg := mg) (base := base) F1 T
  have h_is_number : Has l.prog w K mg base "is_number" 1 (["thing"] : List Str) _ := ⟨f1, _, PySem.W.mg_of X G a1, k1, F1.binds (ps := (["thing"] : List Str)) (fun _ _ _ _ _ _ us hl => match us, hl with | [_], _ => rfl), o_is_number⟩
  have o_is_from_nought := ok_is_from_nought (P := l.prog) (w := w) (mg := mg) (base := base) F15 T (h_is_number := h_is_number)
  have h_is_from_nought : Has l.prog w K mg base "is_from_nought" 2 (["thing"] : List Str) _ := ⟨f15, _, PySem.W.mg_of X G a15, k15, F15.binds (ps := (["thing"] : List Str)) (fun _ _ _ _ _ _ us hl => match us, hl with | [_], _ => rfl), o_is_from_nought⟩
  have o_is_rank := ok_is_rank (P := l.prog) (w := w) (mg := mg) (base := base) F16 T (h_is_number := h_is_number)
  have h_is_rank : Has l.prog w K mg base "is_rank" 2 (["thing"] : List Str) _ := ⟨f16, _, PySem.W.mg_of X G a16, k16, F16.binds (ps := (["thing"] : List Str)) (fun _ _ _ _ _ _ us hl => match us, hl with | [_], _ => rfl), o_is_rank⟩
  have o_are_days := ok_are_days (P := l.prog) (w := w) (mg := mg) (base := base) F17 T (h_is_from_nought := h_is_from_nought)
  have h_are_days : Has l.prog w K mg base "are_days" 3 (["first", "last"] : List Str) _ := ⟨f17, _, PySem.W.mg_of X G a17, k17, F17.binds (ps := (["first", "last"] : List Str)) (fun _ _ _ _ _ _ us hl => match us, hl with | [_, _], _ => rfl), o_are_days⟩
  have o_is_tuple_of := ok_is_tuple_of (P := l.prog) (w := w) (mg := mg) (base := base) F12 T
  have h_is_tuple_of : Has l.prog w K mg base "is_tuple_of" 1 (["thing", "many"] : List Str) _ := ⟨f12, _, PySem.W.mg_of X G a12, k12, F12.binds (ps := (["thing", "many"] : List Str)) (fun _ _ _ _ _ _ us hl => match us, hl with | [_, _], _ => rfl), o_is_tuple_of⟩
  have o_are_tuples_of := ok_are_tuples_of (P := l.prog) (w := w) (mg := mg) (base := base) F13 T (h_is_tuple_of := h_is_tuple_of)
  have h_are_tuples_of : Has l.prog w K mg base "are_tuples_of" 2 (["thing", "many", "most"] : List Str) _ := ⟨f13, _, PySem.W.mg_of X G a13, k13, F13.binds (ps := (["thing", "many", "most"] : List Str)) (fun _ _ _ _ _ _ us hl => match us, hl with | [_, _, _], _ => rfl), o_are_tuples_of⟩
  have o_is_rising := ok_is_rising (P := l.prog) (w := w) (mg := mg) (base := base) F14 T
  have h_is_rising : Has l.prog w K mg base "is_rising" 1 (["keys"] : List Str) _ := ⟨f14, _, PySem.W.mg_of X G a14, k14, F14.binds (ps := (["keys"] : List Str)) (fun _ _ _ _ _ _ us hl => match us, hl with | [_], _ => rfl), o_is_rising⟩
  have o_is_rank_row := ok_is_rank_row (P := l.prog) (w := w) (mg := mg) (base := base) F7 T (h_is_name := h_is_name) (h_is_from_nought := h_is_from_nought) (h_is_rank := h_is_rank) (h_are_days := h_are_days)
  have h_is_rank_row : Has l.prog w K mg base "is_rank_row" 4 (["row", "names"] : List Str) _ := ⟨f7, _, PySem.W.mg_of X G a7, k7, F7.binds (ps := (["row", "names"] : List Str)) (fun _ _ _ _ _ _ us hl => match us, hl with | [_, _], _ => rfl), o_is_rank_row⟩
  have o_is_leave_row := ok_is_leave_row (P := l.prog) (w := w) (mg := mg) (base := base) F9 T (h_is_name := h_is_name) (h_is_from_nought := h_is_from_nought) (h_are_days := h_are_days)
  have h_is_leave_row : Has l.prog w K mg base "is_leave_row" 4 (["row", "names"] : List Str) _ := ⟨f9, _, PySem.W.mg_of X G a9, k9, F9.binds (ps := (["row", "names"] : List Str)) (fun _ _ _ _ _ _ us hl => match us, hl with | [_, _], _ => rfl), o_is_leave_row⟩
  have o_is_rule_row := ok_is_rule_row (P := l.prog) (w := w) (mg := mg) (base := base) F11 T (h_is_from_nought := h_is_from_nought) (h_is_rank := h_is_rank) (h_are_tuples_of := h_are_tuples_of)
  have h_is_rule_row : Has l.prog w K mg base "is_rule_row" 4 (["row", "names"] : List Str) _ := ⟨f11, _, PySem.W.mg_of X G a11, k11, F11.binds (ps := (["row", "names"] : List Str)) (fun _ _ _ _ _ _ us hl => match us, hl with | [_, _], _ => rfl), o_is_rule_row⟩
  have o_comes_to_an_end := ok_comes_to_an_end (P := l.prog) (w := w) (mg := mg) (base := base) F5 T
  have h_comes_to_an_end : Has l.prog w K mg base "comes_to_an_end" 1 (["outer", "name"] : List Str) _ := ⟨f5, _, PySem.W.mg_of X G a5, k5, F5.binds (ps := (["outer", "name"] : List Str)) (fun _ _ _ _ _ _ us hl => match us, hl with | [_, _], _ => rfl), o_comes_to_an_end⟩
  have o_are_parts := ok_are_parts (P := l.prog) (w := w) (mg := mg) (base := base) F4 T (h_is_name := h_is_name) (h_are_tuples_of := h_are_tuples_of) (h_is_rising := h_is_rising) (h_comes_to_an_end := h_comes_to_an_end)
  have h_are_parts : Has l.prog w K mg base "are_parts" 3 (["thing"] : List Str) _ := ⟨f4, _, PySem.W.mg_of X G a4, k4, F4.binds (ps := (["thing"] : List Str)) (fun _ _ _ _ _ _ us hl => match us, hl with | [_], _ => rfl), o_are_parts⟩
  have o_are_ranks := ok_are_ranks (P := l.prog) (w := w) (mg := mg) (base := base) F6 T (h_are_tuples_of := h_are_tuples_of) (h_is_rising := h_is_rising) (h_is_rank_row := h_is_rank_row)
  have h_are_ranks : Has l.prog w K mg base "are_ranks" 5 (["thing", "names"] : List Str) _ := ⟨f6, _, PySem.W.mg_of X G a6, k6, F6.binds (ps := (["thing", "names"] : List Str)) (fun _ _ _ _ _ _ us hl => match us, hl with | [_, _], _ => rfl), o_are_ranks⟩
  have o_are_leaves := ok_are_leaves (P := l.prog) (w := w) (mg := mg) (base := base) F8 T (h_are_tuples_of := h_are_tuples_of) (h_is_rising := h_is_rising) (h_is_leave_row := h_is_leave_row)
  have h_are_leaves : Has l.prog w K mg base "are_leaves" 5 (["thing", "names"] : List Str) _ := ⟨f8, _, PySem.W.mg_of X G a8, k8, F8.binds (ps := (["thing", "names"] : List Str)) (fun _ _ _ _ _ _ us hl => match us, hl with | [_, _], _ => rfl), o_are_leaves⟩
  have o_are_rules := ok_are_rules (P := l.prog) (w := w) (mg := mg) (base := base) F10 T (h_are_tuples_of := h_are_tuples_of) (h_is_rising := h_is_rising) (h_is_rule_row := h_is_rule_row)
  have h_are_rules : Has l.prog w K mg base "are_rules" 5 (["thing", "names"] : List Str) _ := ⟨f10, _, PySem.W.mg_of X G a10, k10, F10.binds (ps := (["thing", "names"] : List Str)) (fun _ _ _ _ _ _ us hl => match us, hl with | [_, _], _ => rfl), o_are_rules⟩
  have o_is_house := ok_is_house (P := l.prog) (w := w) (mg := mg) (base := base) F3 T (h_is_tuple_of := h_is_tuple_of) (h_are_parts := h_are_parts) (h_are_ranks := h_are_ranks) (h_are_leaves := h_are_leaves) (h_are_rules := h_are_rules)
  have h_is_house : Has l.prog w K mg base "is_house" 6 (["thing"] : List Str) _ := ⟨f3, _, PySem.W.mg_of X G a3, k3, F3.binds (ps := (["thing"] : List Str)) (fun _ _ _ _ _ _ us hl => match us, hl with | [_], _ => rfl), o_is_house⟩
  have o_empty_house := ok_empty_house (P := l.prog) (w := w) (mg := mg) (base := base) F2 T
  have h_empty_house : Has l.prog w K mg base "empty_house" 1 ([] : List Str) _ := ⟨f2, _, PySem.W.mg_of X G a2, k2, F2.binds (ps := ([] : List Str)) (fun _ _ _ _ _ _ us hl => match us, hl with | [], _ => rfl), o_empty_house⟩
  have o_Lbox := ok_Lbox (P := l.prog) (w := w) (mg := mg) (base := base) F18 T
  have h_Lbox : Has l.prog w K mg base "_law_box" 1 (["_law_script", "_law_k"] : List Str) _ := ⟨f18, _, PySem.W.mg_of X G a18, k18, F18.binds (ps := (["_law_script", "_law_k"] : List Str)) (fun _ _ _ _ _ _ us hl => match us, hl with | [_, _], _ => rfl), o_Lbox⟩
  have o_Ltake := ok_Ltake (P := l.prog) (w := w) (mg := mg) (base := base) F19 T
  have h_Ltake : Has l.prog w K mg base "_law_take" 1 (["_law_box_here", "_law_many_here"] : List Str) _ := ⟨f19, _, PySem.W.mg_of X G a19, k19, F19.binds (ps := (["_law_box_here", "_law_many_here"] : List Str)) (fun _ _ _ _ _ _ us hl => match us, hl with | [_, _], _ => rfl), o_Ltake⟩
  have o_Lnames := ok_Lnames (P := l.prog) (w := w) (mg := mg) (base := base) F20 T (h_Ltake := h_Ltake)
  have h_Lnames : Has l.prog w K mg base "_law_names" 2 (["_law_box_here", "_law_many_here"] : List Str) _ := ⟨f20, _, PySem.W.mg_of X G a20, k20, F20.binds (ps := (["_law_box_here", "_law_many_here"] : List Str)) (fun _ _ _ _ _ _ us hl => match us, hl with | [_, _], _ => rfl), o_Lnames⟩
  have o_Lday := ok_Lday (P := l.prog) (w := w) (mg := mg) (base := base) F21 T (h_Ltake := h_Ltake)
  have h_Lday : Has l.prog w K mg base "_law_day" 2 (["_law_box_here"] : List Str) _ := ⟨f21, _, PySem.W.mg_of X G a21, k21, F21.binds (ps := (["_law_box_here"] : List Str)) (fun _ _ _ _ _ _ us hl => match us, hl with | [_], _ => rfl), o_Lday⟩
  have o_Lsum := ok_Lsum (P := l.prog) (w := w) (mg := mg) (base := base) F22 T (h_Ltake := h_Ltake)
  have h_Lsum : Has l.prog w K mg base "_law_sum" 2 (["_law_box_here"] : List Str) _ := ⟨f22, _, PySem.W.mg_of X G a22, k22, F22.binds (ps := (["_law_box_here"] : List Str)) (fun _ _ _ _ _ _ us hl => match us, hl with | [_], _ => rfl), o_Lsum⟩
  have o_Lnumbers := ok_Lnumbers (P := l.prog) (w := w) (mg := mg) (base := base) F23 T (h_Ltake := h_Ltake)
  have h_Lnumbers : Has l.prog w K mg base "_law_numbers" 2 (["_law_box_here", "_law_many_here"] : List Str) _ := ⟨f23, _, PySem.W.mg_of X G a23, k23, F23.binds (ps := (["_law_box_here", "_law_many_here"] : List Str)) (fun _ _ _ _ _ _ us hl => match us, hl with | [_, _], _ => rfl), o_Lnumbers⟩
  have o_Lmany := ok_Lmany (P := l.prog) (w := w) (mg := mg) (base := base) F24 T (h_Ltake := h_Ltake)
  have h_Lmany : Has l.prog w K mg base "_law_many" 2 (["_law_box_here", "_law_most"] : List Str) _ := ⟨f24, _, PySem.W.mg_of X G a24, k24, F24.binds (ps := (["_law_box_here", "_law_most"] : List Str)) (fun _ _ _ _ _ _ us hl => match us, hl with | [_, _], _ => rfl), o_Lmany⟩
  have o_Lparts := ok_Lparts (P := l.prog) (w := w) (mg := mg) (base := base) F25 T (h_Ltake := h_Ltake) (h_Lmany := h_Lmany)
  have h_Lparts : Has l.prog w K mg base "_law_parts" 3 (["_law_box_here", "_law_names_here"] : List Str) _ := ⟨f25, _, PySem.W.mg_of X G a25, k25, F25.binds (ps := (["_law_box_here", "_law_names_here"] : List Str)) (fun _ _ _ _ _ _ us hl => match us, hl with | [_, _], _ => rfl), o_Lparts⟩
  have o_Lhouse := ok_Lhouse (P := l.prog) (w := w) (mg := mg) (base := base) F26 T (h_Ltake := h_Ltake) (h_Lday := h_Lday) (h_Lsum := h_Lsum) (h_Lnumbers := h_Lnumbers) (h_Lmany := h_Lmany) (h_Lparts := h_Lparts)
  have h_Lhouse : Has l.prog w K mg base "_law_house" 4 (["_law_box_here", "_law_names_here"] : List Str) _ := ⟨f26, _, PySem.W.mg_of X G a26, k26, F26.binds (ps := (["_law_box_here", "_law_names_here"] : List Str)) (fun _ _ _ _ _ _ us hl => match us, hl with | [_, _], _ => rfl), o_Lhouse⟩
  have o_Lbad_parts := ok_Lbad_parts (P := l.prog) (w := w) (mg := mg) (base := base) F27 T
  have h_Lbad_parts : Has l.prog w K mg base "_law_bad_parts" 1 (["_law_house_here"] : List Str) _ := ⟨f27, _, PySem.W.mg_of X G a27, k27, F27.binds (ps := (["_law_house_here"] : List Str)) (fun _ _ _ _ _ _ us hl => match us, hl with | [_], _ => rfl), o_Lbad_parts⟩
  have o_Lbad_ranks := ok_Lbad_ranks (P := l.prog) (w := w) (mg := mg) (base := base) F28 T
  have h_Lbad_ranks : Has l.prog w K mg base "_law_bad_ranks" 1 (["_law_house_here"] : List Str) _ := ⟨f28, _, PySem.W.mg_of X G a28, k28, F28.binds (ps := (["_law_house_here"] : List Str)) (fun _ _ _ _ _ _ us hl => match us, hl with | [_], _ => rfl), o_Lbad_ranks⟩
  have o_Lbad_leaves := ok_Lbad_leaves (P := l.prog) (w := w) (mg := mg) (base := base) F29 T
  have h_Lbad_leaves : Has l.prog w K mg base "_law_bad_leaves" 1 (["_law_house_here"] : List Str) _ := ⟨f29, _, PySem.W.mg_of X G a29, k29, F29.binds (ps := (["_law_house_here"] : List Str)) (fun _ _ _ _ _ _ us hl => match us, hl with | [_], _ => rfl), o_Lbad_leaves⟩
  have o_Lbad_rules := ok_Lbad_rules (P := l.prog) (w := w) (mg := mg) (base := base) F30 T
  have h_Lbad_rules : Has l.prog w K mg base "_law_bad_rules" 1 (["_law_house_here"] : List Str) _ := ⟨f30, _, PySem.W.mg_of X G a30, k30, F30.binds (ps := (["_law_house_here"] : List Str)) (fun _ _ _ _ _ _ us hl => match us, hl with | [_], _ => rfl), o_Lbad_rules⟩
  have o_Lsays := ok_Lsays (P := l.prog) (w := w) (mg := mg) (base := base) F31 T (h_is_house := h_is_house)
  have h_Lsays : Has l.prog w K mg base "_law_says" 7 (["_law_thing", "_law_due"] : List Str) _ := ⟨f31, _, PySem.W.mg_of X G a31, k31, F31.binds (ps := (["_law_thing", "_law_due"] : List Str)) (fun _ _ _ _ _ _ us hl => match us, hl with | [_, _], _ => rfl), o_Lsays⟩
  have o_law := ok_law (P := l.prog) (w := w) (mg := mg) (base := base) F32 T (h_is_house := h_is_house) (h_empty_house := h_empty_house) (h_Lbox := h_Lbox) (h_Lnames := h_Lnames) (h_Lhouse := h_Lhouse) (h_Lbad_parts := h_Lbad_parts) (h_Lbad_ranks := h_Lbad_ranks) (h_Lbad_leaves := h_Lbad_leaves) (h_Lbad_rules := h_Lbad_rules) (h_Lsays := h_Lsays)
  exact o_law
theorem walk {l : PySem.W.OpenLaw} {q : Program} {loose : List Str} {XP : (Str → Option Value) → Heap → Prop} {YP : World → Heap → Prop} {d : DefRec} {K : Params → PySem.W.Frag} (hn : l.most = some 63) (hdf : d.params.defaults = [])
    (hY : ∀ (w : World) (h : Heap), YP w h → (K w.params).In h)
    (F : ∀ (w : World) (mg : Str → Option Value) (fa : Addr) (h : Heap), (K w.params).In h → h.Ns mainGlobals mg → mg d.name = some (.ref fa) →
      ∃ fd : FuncData, (∀ (s : Shared) (u : Value), BindsTo s fd ⟨[u], []⟩ [("_law_script", u)]) ∧ ∀ base : Heap, (K w.params).In base → base.Ns mainGlobals mg → FnOk l.prog w (K w.params) mg base CX0 8 fa fd ["_law_script"] (sp_law (K w.params))) :
    PySem.W.WalkO q loose XP YP l.row.toRowW d [] (fun f vs => PySem.call f vs) :=
  L2.walk_of (n := 63) (k := 8) (x := "_law_script") (CX := fun _ => CX0) (sp := fun w => sp_law (K w.params)) hn (by decide) hdf ⟨rfl, by decide, by decide, rfl⟩ hY F (fun _ _ a ns hl _ hS => ⟨a, ns, rfl, hS, hl, fun _ => rfl⟩) fun _ _ _ _ _ z => z
end K02
open PySem PySem.W PyProof.Rows
set_option maxRecDepth 100000 in
set_option maxHeartbeats 0 in
theorem PySem.Challenge.cw_rankseals_k02_what_a_house_is_holds : PySem.Challenge.rw_rankseals_k02_what_a_house_is.Holds := by
  w_on; o_law; k_head; (case hw => w_witness2)
  k_fill
  refine K02.walk (l := PySem.Challenge.rw_rankseals_k02_what_a_house_is) rfl rfl (fun w h Y => PySem.W.kIn_of Y) ?F
  case F =>
    intro w mg fa h KX G hmg
    refine' K02.all_mk KX G hmg ?a0 ?l0 ?c0 ?k0 ?a1 ?l1 ?c1 ?k1 ?a2 ?l2 ?c2 ?k2 ?a3 ?l3 ?c3 ?k3 ?a4 ?l4 ?c4 ?k4 ?a5 ?l5 ?c5 ?k5 ?a6 ?l6 ?c6 ?k6 ?a7 ?l7 ?c7 ?k7 ?a8 ?l8 ?c8 ?k8 ?a9 ?l9 ?c9 ?k9 ?a10 ?l10 ?c10 ?k10 ?a11 ?l11 ?c11 ?k11 ?a12 ?l12 ?c12 ?k12 ?a13 ?l13 ?c13 ?k13 ?a14 ?l14 ?c14 ?k14 ?a15 ?l15 ?c15 ?k15 ?a16 ?l16 ?c16 ?k16 ?a17 ?l17 ?c17 ?k17 ?a18 ?l18 ?c18 ?k18 ?a19 ?l19 ?c19 ?k19 ?a20 ?l20 ?c20 ?k20 ?a21 ?l21 ?c21 ?k21 ?a22 ?l22 ?c22 ?k22 ?a23 ?l23 ?c23 ?k23 ?a24 ?l24 ?c24 ?k24 ?a25 ?l25 ?c25 ?k25 ?a26 ?l26 ?c26 ?k26 ?a27 ?l27 ?c27 ?k27 ?a28 ?l28 ?c28 ?k28 ?a29 ?l29 ?c29 ?k29 ?a30 ?l30 ?c30 ?k30 ?a31 ?l31 ?c31 ?k31 ?a32 ?l32 ?c32 ?k32 ?b_abs ?b_all ?b_bool ?b_int ?b_isinstance ?b_len ?b_list ?b_max ?b_min ?b_range ?b_repr ?b_sorted ?b_str ?b_tuple ?b_zip ?g_HIGHEST_RANK ?g_LOWEST_RANK ?g_MOST_LEAVES ?g_MOST_LETTERS ?g_MOST_PARTS ?g_MOST_RANKS ?g_MOST_RULES ?g_MOST_SEATS
    (case a0 => k_is)
    (case l0 => k_is)
    (case c0 => k_is)
    (case k0 => k_is)
    (case a1 => k_is)
    (case l1 => k_is)
    (case c1 => k_is)
    (case k1 => k_is)
    (case a2 => k_is)
    (case l2 => k_is)
    (case c2 => k_is)
    (case k2 => k_is)
    (case a3 => k_is)
    (case l3 => k_is)
    (case c3 => k_is)
    (case k3 => k_is)
    (case a4 => k_is)
    (case l4 => k_is)
    (case c4 => k_is)
    (case k4 => k_is)
    (case a5 => k_is)
    (case l5 => k_is)
    (case c5 => k_is)
    (case k5 => k_is)
    (case a6 => k_is)
    (case l6 => k_is)
    (case c6 => k_is)
    (case k6 => k_is)
    (case a7 => k_is)
    (case l7 => k_is)
    (case c7 => k_is)
    (case k7 => k_is)
    (case a8 => k_is)
    (case l8 => k_is)
    (case c8 => k_is)
    (case k8 => k_is)
    (case a9 => k_is)
    (case l9 => k_is)
    (case c9 => k_is)
    (case k9 => k_is)
    (case a10 => k_is)
    (case l10 => k_is)
    (case c10 => k_is)
    (case k10 => k_is)
    (case a11 => k_is)
    (case l11 => k_is)
    (case c11 => k_is)
    (case k11 => k_is)
    (case a12 => k_is)
    (case l12 => k_is)
    (case c12 => k_is)
    (case k12 => k_is)
    (case a13 => k_is)
    (case l13 => k_is)
    (case c13 => k_is)
    (case k13 => k_is)
    (case a14 => k_is)
    (case l14 => k_is)
    (case c14 => k_is)
    (case k14 => k_is)
    (case a15 => k_is)
    (case l15 => k_is)
    (case c15 => k_is)
    (case k15 => k_is)
    (case a16 => k_is)
    (case l16 => k_is)
    (case c16 => k_is)
    (case k16 => k_is)
    (case a17 => k_is)
    (case l17 => k_is)
    (case c17 => k_is)
    (case k17 => k_is)
    (case a18 => k_is)
    (case l18 => k_is)
    (case c18 => k_is)
    (case k18 => k_is)
    (case a19 => k_is)
    (case l19 => k_is)
    (case c19 => k_is)
    (case k19 => k_is)
    (case a20 => k_is)
    (case l20 => k_is)
    (case c20 => k_is)
    (case k20 => k_is)
    (case a21 => k_is)
    (case l21 => k_is)
    (case c21 => k_is)
    (case k21 => k_is)
    (case a22 => k_is)
    (case l22 => k_is)
    (case c22 => k_is)
    (case k22 => k_is)
    (case a23 => k_is)
    (case l23 => k_is)
    (case c23 => k_is)
    (case k23 => k_is)
    (case a24 => k_is)
    (case l24 => k_is)
    (case c24 => k_is)
    (case k24 => k_is)
    (case a25 => k_is)
    (case l25 => k_is)
    (case c25 => k_is)
    (case k25 => k_is)
    (case a26 => k_is)
    (case l26 => k_is)
    (case c26 => k_is)
    (case k26 => k_is)
    (case a27 => k_is)
    (case l27 => k_is)
    (case c27 => k_is)
    (case k27 => k_is)
    (case a28 => k_is)
    (case l28 => k_is)
    (case c28 => k_is)
    (case k28 => k_is)
    (case a29 => k_is)
    (case l29 => k_is)
    (case c29 => k_is)
    (case k29 => k_is)
    (case a30 => k_is)
    (case l30 => k_is)
    (case c30 => k_is)
    (case k30 => k_is)
    (case a31 => k_is)
    (case l31 => k_is)
    (case c31 => k_is)
    (case k31 => k_is)
    (case a32 => k_is)
    (case l32 => k_is)
    (case c32 => k_is)
    (case k32 => k_is)
    (case b_abs => k_is)
    (case b_all => k_is)
    (case b_bool => k_is)
    (case b_int => k_is)
    (case b_isinstance => k_is)
    (case b_len => k_is)
    (case b_list => k_is)
    (case b_max => k_is)
    (case b_min => k_is)
    (case b_range => k_is)
    (case b_repr => k_is)
    (case b_sorted => k_is)
    (case b_str => k_is)
    (case b_tuple => k_is)
    (case b_zip => k_is)
    (case g_HIGHEST_RANK => k_is)
    (case g_LOWEST_RANK => k_is)
    (case g_MOST_LEAVES => k_is)
    (case g_MOST_LETTERS => k_is)
    (case g_MOST_PARTS => k_is)
    (case g_MOST_RANKS => k_is)
    (case g_MOST_RULES => k_is)
    (case g_MOST_SEATS => k_is)


